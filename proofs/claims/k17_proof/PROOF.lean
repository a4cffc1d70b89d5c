import PyProof.Rows.All
import KE.KDictSum
import KE.KLam
import OpenK.AllK
import PyProof.CompMap
import PyProof.EnumFor
import PyProof.EnumMake
import PyProof.EqAt
import PyProof.EqKinds
import PyProof.ListMulRoad
import PyProof.ListRange
import PyProof.ListStr
import PyProof.Rows.SetFrom
import PyProof.TupleCall
import PyProof.WalksMore
import PyProof.ZipIter
import PySem.Syntax
import Wide.All
import Wide.FinOn
import Lean
import PySem.Challenge.RW_kinddeeds_k17_tree_walked
set_option Elab.async false
set_option linter.all false
set_option compiler.extract_closed false
set_option genSizeOf false
set_option bootstrap.genMatcherCode false
set_option maxRecDepth 100000
set_option maxHeartbeats 4000000
noncomputable section
structure PySem.W.Fast:Prop where(tw5586339850911640425 tw14767526510607934952 tw7472823994384505416 tw12541253063034276727 tw6972380832774346208 tw1767223492843153005 tw14791863664818309749 tw13013130304730004652 tw7235325197337083001 tw3816481955274908817 tw15906699997256794059 tw5301923911393910660 tw17663833484244095961 tw12557079935966392899 tw14267884068222745678 tw13942955757869739716 tw757372431150646452 tw928596914040317975 tw8551707611667465105 tw5964429709406949038 tw17962012562510652081 tw6578308682198900514 tw8533959276495983652 tw10205787646643365634 tw3333084922032978900 tw7375547410353827656 tw8917689627465760263 tw1024076945458090625 tw6265802555052512497 tw12393333977992742020 tw17954013794781215326 tw9062259485764476625 tw8790337767913046218 tw14447281556953386090 tw14536908358835430297 tw12563171592866081406 tw15751295271606150781 tw7052266562023646887 tw11811857460735985945 tw4392493095844912057 tw2329271261188587815 tw3607583899568302343 tw11289511778912985638 tw339177626011080325 tw6133239675613007492 tw805677713342270879 tw4126308369215088815 tw5179244828161868156 tw433922665469997974 tw17253825680780997344 tw13512944392131697069 tw13754522980295240396 tw4514327172211871114 tw17452966107652833559 tw13446501228862253722 tw15877267366451445131 tw6334325123176736262 tw11956864125647974659 tw288221042852714397 tw2285776495151521686 tw13304922377303947630 tw12012869850459291594 tw12533544973656229583 tw5570733487873793081 tw11921350990879395305 tw18044091411155185112 tw4892809436418930972 tw862863653903470710 tw8456778950254028809 tw7548936872960163143 tw14809800141085236641 tw7878688330468473277 tw10855793547001514741 tw11530460363613553692 tw947377787980976594 tw10061704456264051674 tw498265342025269071 tw6831347922470085294 tw3070151068546935047 tw3367336081075297363 tw6041079802468919163 tw9528117071273984035 tw10205756750972356195 tw1380042000549619423 tw15833032007537152052 tw8611015088592717620 tw9834344666281224611 tw1297468719712056968 tw5484365944083811035 tw935013015227201967 tw4750548287527473050 tw6157075176573895222 tw10683177384278075408 tw14434893748280946329 tw2961005707860524676 tw10132009789101376130 tw4018734585164700631 tw10331717491968596519 tw506498798768634872 tw11668424802944518509 tw17104185896262910448 tw10419415262927198448 tw1591420028296178146 tw7283948336911552315 tw6164496335862929295 tw606878045570652874 tw15383561795359821349 tw13430565232403737121 tw5717606674390939561 tw13352879503330211790 tw3613511792804648225 tw6232032712202323789 tw10633652482147234388 tw9349730684356194690 tw2433112142694468731 tw13110028742526978620 tw4838387257161642493 tw13393741412969341982 tw8214411475418876032 tw454198621113828997 tw908514262099001554 tw15646101736521495255 tw1679929534412613916 tw13358768890403370708 tw14886558316591291850 tw3461482935031858259 tw5909408381842253264 tw794928238767756349 tw13907507313320566072 tw4758216512480228146 tw13535329537074102540 tw8287162969329302029 tw16013683931226733240 tw10943964779976879343 tw16889421207751232786 tw1542045232049002004 tw14773227348250122909 tw9851028862772404017 tw457903283081564458 tw759484342655027687 tw5105452528649378915 tw10690634724829287494 tw15612063502161804377 tw15497188420826198499 tw4729264073038157164 tw16055521881495600842 tw8381698909220325814 tw18106501779754345622 tw15242321992506473714 tw1705250268791723117 tw7795270459293488805 tw16219665030305280509 tw10264601621746565802 tw3679338202292083532 tw10357095335258268029 tw2636945157835621627 tw10975174652449941834 tw1016922123371887631 tw82475422840395192 tw15210306619220087961 tw1545972590749176499 tw5914620050723451439 tw1077943055036425266 tw6545569219009877146 tw3284218578076436332 tw573884724346087271 tw1300030907546285218 tw8123312825874509528 tw15208629087119352188 tw2470251967579914213 tw12448079609741064235 tw6534835172581965480 tw3494456619954515677 tw8040920770572907596 tw6609832398017415949 tw10151520851260670635 tw7684189807282749431 tw13874427394259630175 tw7655782711261758265 tw15757443288176862640 tw3137412546017740478 tw7129368544971454084 tw12428499856918797602 tw2130841765370359642 tw14314482881490055306 tw16859046988858791727 tw2490471921746813980 tw3480758747544925794 tw8107104294372710376 tw11593189908284410726 tw8041133939015975841 tw421030204968483637 tw13096501307869189755 tw17063866957352700552 tw1040056744439609783 tw5058961138053143611 tw12261968616361744590 tw73916409659479094 tw5228991762948522527 tw9007525522220491126 tw6632710759359078284 tw16160779116831829564 tw10654365439106241675 tw13380584137240566888 tw14279541937484579913 tw8754762561724180694 tw11381636276509135559 tw15086232215358397784 tw758677645875026799 tw12715504586871306549 tw5496896180407161180 tw9972665946128016491 tw5441625181876228863 tw14704666757669158932 tw13600453328245111421 tw17749566036846945006 tw446061752005587229 tw2370653152993625054 tw17610222593300838858 tw15306490524657520783 tw7954403832434008462 tw8865490472345488367 tw479243248143656782 tw6053499153324457368 tw10585910237378135393 tw99006631594019641 tw6266652011130713390 tw1414111763137100093 tw9825599386597176557 tw8252088714470442517 tw2372995579629596177 tw1441485307842898616 tw1503872796237911709 tw13029863756704756299 tw3746951622100924932 tw1207998605257957370 tw10743032645002668056 tw16268814286322945803 tw16622583301460777764 tw14172066264988050176 tw7076135265924702948 tw857542643082057826 tw8443758269472670966 tw1557738564111210510 tw1266365451373725226 tw16556710527565952446 tw453830050929675539 tw969334932017803459 tw8526693862676304807 tw3882967253726319411 tw2083010939879059377 tw17764190633027042385 tw3690583964185791844 tw7847063624735070279 tw11703587210734973785 tw13688355824177315426 tw2543022557213350304 tw12199919648260225016 tw8096471332676497359 tw1647701679625665627 tw13521182158308844074 tw7521067399003946789 tw8725914250968070602 tw5628471442019148369 tw8166258049838385935 tw14602930019976591938 tw4129536786675016538 tw11552759306818095046 tw994216972216642100 tw11500437108317665959 tw11178713247377309995 tw4832791343062248781 tw6697888300471270496 tw5249894055826085976 tw15344843139905572716 tw12247331973340863325 tw5358760565711558234 tw17204507546538509488 tw5558357310259497048 tw16786595054450660440 tw3500841481406429775 tw9472296447311304422 tw7943603973813057338 tw17961471243849051317 tw948247723851594417 tw8080086807341776260 tw15541706767838229471 tw17222747319244126565 tw2129629665455443915 tw2469287366859534991 tw1727543232525972059 tw17943359428363316275 tw16607502013045101675 tw11631904016400025704 tw1945854820274790810 tw5558011288306095869 tw3890617769937182497 tw15266620664167375649 tw11925262506743397464 tw11780415259932601995 tw13901673344208937377 tw15327424301375132837 tw15923210120132489815 tw15897855882766344620 tw6720557523806657642 tw9819764915262325218 tw1564261483971610966 tw3405359642409333114 tw17751639232760757498 tw5826585330609422541 tw15784546268138451449 tw8011180034274602506 tw14788164295713639176 tw5145991633281880391 tw1634861153382631171 tw7281860903049333450 tw18183084088365549032 tw13099675000866410305 tw2733303642419515785 tw15494704777577991719 tw11297818396923247022 tw6641868336009959018 tw10525786668663035761 tw1861616701799609020 tw7351330389192331036 tw6300908545941786123 tw454203991444322064 tw6395928593057460174 tw16091042388300355031 tw15685482062587937724 tw9225130134666262388 tw10715762791658929070 tw5799123640873787815 tw16294803119177703390 tw555960913143947842 tw8587478781219096904 tw5213929830146600632 tw17540513809938608981 tw806596939171465229 tw12852599196224272268 tw10648573641678214636 tw14178373784764533265 tw8722673804619857195 tw9626963438944420115 tw15187326238265776170 tw13443662679484036162 tw17018904196986815812 tw4264862141697879635 tw9487404325171411249 tw3665254946393282925 tw10344015571816456961 tw4903091724844668474 tw10524489014149646435 tw12783776370566082705 tw18397793589618604081 tw10357616790171809826 tw10705171132740041267 tw10314788161215686419 tw814784307139859839 tw1540346925336609086 tw2116998612943334543 tw9320210944352531732 tw10073886886781831107 tw9881226287790745302 tw7821475852412650621 tw17446335947957821799 tw1928142251016336212 tw6702097439749383117 tw11977995168652442280 tw752539454241432354 tw10772420590253628234 tw17016087931745485584 tw11070193601133547879 tw15622322318092291612 tw14116086734843016997 tw6285615626899448726 tw13865915361707879805 tw10139584385944976571 tw9055660007176963674 tw6468803467375672317 tw13978318115115398777 tw2429293116250635123 tw10745711078926684827 tw14396154108597594315 tw2156847763199716227 tw16413438838240987757 tw935537421525310882 tw9537856569629446502 tw5510147624122488302 tw4618272467099522204 tw9107055374217902940 tw6523669715388784488 tw15220749243276055709 tw7257802017603873903 tw196224842904775709 tw4321134638610137199 tw2786477058947662737 tw1375897727814506669 tw15574639180686531187 tw14661012538900859501 tw12406645960323454261 tw1650660785510389839 tw16533643554791199709 tw4266320063912711304 tw12032664370575637118 tw6971691531734493595 tw5537337883871791071 tw6606536081080078717 tw14432905451371660984 tw581804254325485125 tw17970479341451284736 tw12236231835177261896 tw2952577523249342414 tw14669504420354449428 tw8098143128606055063 tw8678404886197512477 tw11666933413307388174 tw7679860751911554747 tw13751990548285573220 tw4985308269298012195 tw1654286310530128430 tw15470381196393934716 tw15975538481735032525 tw12285045172721523464 tw9736204674036836038 tw14695888873147059576 tw17093421140852294889 tw437800154557715402 tw1858454407301074329 tw1355167998809721775 tw4006236359636131896 tw8849766180337354228 tw1834327917209967088 tw792435849561286750 tw10410007197673179984 tw1847817064392327220 tw12720744279453313820 tw17253340082615684533 tw8611208715563658058 tw15382526008247679308 tw10474824914354038998 tw13505958284900395817 tw15119527006973265860 tw15273535952587103718 tw13851105856204335746 tw285988039333880057 tw13155039988957902475 tw7892861098462984247 tw18103051049848733232 tw4164891077438895738 tw5741362379130463748 tw971393923059220006 tw9334963912631169303 tw12506256001923896851 tw10505204361126668696 tw996850475072061968 tw16868022621666544901 tw16279531021716062928 tw5493378868070169780 tw17523237431587879798 tw10015362094500679332 tw9983444611567753006 tw12063373074350171670 tw5199518334815507416 tw16940412140949883510 tw3790262771043807419 tw3151256292164142056 tw9735909806524476658 tw10170961990756243460 tw4781118026593180185 tw17230525132143160130 tw1623487891067260932 tw139536945433694892 tw9466318056881706394 tw15654760320909845984 tw15044403807386734328 tw9070398306999266123 tw10903969609947612506 tw2089794297763733323 tw14669969009117759548 tw18085151406818539780 tw11260236371786271074 tw1256456641341087068 tw13316088521873174271 tw18351572049915630475 tw17163005400737323452 tw13850451350048203870 tw11402283390958718619 tw3099659355747677781 tw14200961464444151710 tw5121843035306517777 tw11707116867613946202 tw568030570245949872 tw15036855190631477638 tw12423167918716261030 tw13331039335714101685 tw10030515886062859832 tw1488951849930526296 tw17713748533037799488 tw2921373652021733523 tw13999205053978818089 tw5645882743689815068 tw14844012782218868625 tw12915011136285458003 tw694974978436200085 tw1041920679813609228 tw10862619684306277297 tw6687701683377363902 tw13892289676082883484 tw18364336128894591929 tw10884756465492681160 tw10184531424969261822 tw12273783044295529254 tw8961043071479544415 tw15293977129254500911 tw1228183733806886356 tw1206370489282984578 tw2744269716448395232 tw3897900069233127649 tw4855880771952992710 tw7855279440517103653 tw7248728790963789446 tw17302415531257557834 tw16933594076966409925 tw4238709719793606923 tw9187477220175701883 tw16527085901909204050 tw4817813082147541842 tw13964066193344362231 tw4681761040498038437 tw1774088576855810408 tw16920752454842734837 tw724804881559256691 tw7393885011990535604 tw1369224512733754517 tw7023536754988373715 tw508784796965824593 tw3582406385726365439 tw10863624497680070690 tw16964023722366490713 tw4204588349073008544 tw10799835055529495354 tw5408051002759979724 tw5663961323735882275 tw3368715124160800681 tw1664687358592795662 tw10911680222273651664 tw13698975082740844296 tw3745535466573564359 tw8140353392418139094 tw8149682747416209816 tw732817019062185363 tw15893464733165062887 tw5495029309402729383 tw10787508865938089268 tw12099736751659011101 tw4782482152754141603 tw11511770718628928916 tw17775411108941240002 tw18068486853853611690 tw7693615579009806868 tw18100756075364622813 tw80831953402423907 tw7028363415650679131 tw12736524046739190357 tw8281254914081008787 tw9723997219405788026 tw10813709251592209442 tw3989049636439035226 tw12384647391492286713 tw6372773185732362120 tw15382310837609257848 tw18354470986341687168 tw12090168473642496651 tw13505079877662267866 tw4370464521449567590 tw2901245493027581515 tw16514392852857289060 tw8856374022467226997 tw16691343373480156243 tw200579727196786061 tw14064137289623167405 tw8952676436870997255 tw8315432351984398218 tw12217710804115540095 tw3000580315080737895 tw11515867232392273556 tw18303086486048774517 tw2669386225486894642 tw255272523674443844 tw14129081284198212650 tw131559032421488740 tw5194271190256599418 tw777746102453021555 tw2887257694024805028 tw6494444783620431473 tw10874550087507133161 tw3365061635968838761 tw16039414306193233297 tw9008220549721623039 tw12471964025711031804 tw6428118119871907296 tw17659551100870117423 tw17376070982979477573 tw4743371055913226188 tw12058856325594239099 tw1823775722559998199 tw16781284831925603257 tw11872526910916975656 tw10970487384849536956 tw16902267416910103389 tw7432238650627503028 tw17465692383412012665 tw14293989894687649332 tw9523702518365309809 tw2748417993718976843 tw1534136295104141440 tw18281912366852800553 tw12977500465242134277 tw2808145243413129341 tw646648460993608135 tw6919210673153263756 tw1408721490429524751 tw8266233330154184711 tw9515266585232171988 tw3416666318224042760 tw7436825509483587253 tw14994778035331107729 tw18049690343517925449 tw18368487543855271612 tw8595248213860627786 tw18009449281985093569 tw7301918938493345842 tw10638386942532438781 tw11059835195272422442 tw10825119176147135832 tw9289401938500656225 tw9516934568050613757 tw5962545390830536904 tw10124096432917242986 tw3429032148031808326 tw7153532494217388060 tw6174237387870958747 tw2805218782759132032 tw17355047481624173073 tw3129232324643118139 tw13816143119474379414 tw6230372876928370865 tw5153244615515155241 tw10436788107299411586 tw9351077827981787505 tw10662727457974869013 tw12053568859715744601 tw16736703465099366548 tw264465288060236997 tw11326750198785476039 tw13318746695657145050 tw18325510121047366979 tw15981732636657542414 tw17041940444576466460 tw16840484387526896867 tw309450182639516880 tw2081873635860695170 tw11747667012100250734 tw2211389327731448375 tw147216890950642091 tw953215260757529978 tw17923041496294311995 tw17523771616207974294 tw9501165052046202920 tw2380735297775350124 tw7024551102181830176 tw2662496399876154046 tw6817971149626975677 tw5664538234313610961 tw13987486976805939724 tw17204298989079191882 tw639072199455670521 tw3849137774865443654 tw11245971195931351384 tw5245384419663520119 tw4275193863852665759 tw18245197175970056054 tw13436009616714538500 tw4405586297638453714 tw5757281920452761083 tw4330428811791747861 tw7219735697390286539 tw16279466341824810998 tw4935450704168823513 tw13868723343857892981 tw14496505212702548537 tw14232729089996756242 tw2344634407003997575 tw15642106421614444003 tw3672909941879834336 tw1307110767730137846 tw17483613454172292743 tw14661502800757876648 tw2898845561687204573 tw5973246092099815138 tw6341570227075443881 tw16774152303906033571 tw1154521586641805587 tw2531483729013180768 tw6950527734746656919 tw17427777386086221792 tw9206208583404377550 tw1130624855258447191 tw6275525499435846832 tw2676140137757854535 tw15950047923909679549 tw14818456783904132204 tw113701890529311651 tw5612572860586826894:True)
open List (mem_singleton mem_append mem_filter mem_range filterMap_cons mem_cons_of_mem mem_cons mem_filterMap size_toArray map_cons append_nil nodup_cons of_mem_zip length_take mem_of_getElem? length_drop length_set reverse_cons map_nil forIn_cons lookup_cons all_eq_true not_mem_nil ext_getElem? mem_iff_getElem getElem_mem isEmpty_iff drop_eq_getElem_cons append_assoc mem_map_of_mem mem_iff_getElem? zip_cons_cons all_cons length_zip mem_map take_of_length_le drop_zero not_lt any_cons range_succ map_append take_add_one length_range getElem_map map_map map_congr_left nodup_append any_eq_true take_length zipIdx_cons forIn_nil pairwise_cons drop_one map_singleton mem_of_mem_take lookup_eq_none_iff map_flatMap flatMap_cons take_append_drop flatMap_append flatMap_singleton mem_flatMap length_filter_le all_append pairwise_map mem_range'_1 filter_append flatMap_map)
open PySem.W (instObj methodObj hideAll hideAll_size hideAll_get of_hideAll hideAll_none Frag lookIn InstAt plainGet hasDictIn findIn handedIn plainGet_of isFn plainOver takerIn Looks makesIn typeIn emptyDict keepIn cellsFrom_some fnOf codeIn CodeHd kla_fn tabObj envX codeHdIn codeHd_of_K KdlSrc kitOne kia_one kitx_list nsIn mg_of)
abbrev _root_.Va:=PySem.Value->PySem.Shared->Prop
abbrev _root_.Oa:=List (PySem.Addr×PySem.Obj)
abbrev _root_.ng(x:PySem.Str):Prop:=(x == ("__debug__":PySem.Str))=false
local macro_rules
|`($k^^^$n&&&$e)=>`($k == PySem.NameKind.free && ($e).scope.kind == .function && ($e).kindOf $n == some .cell)
|`($x|||$m)=>`(PySem.wpAny (PySem.model ($x).prog ($x).w) ($x).A $m)
|`(tactic|rintro $p:rcasesPat : $e)=>`(tactic|obtain $p:rcasesPat := $e)
|`(~~~$x)=>`(PySem.placesWithHash ($x).size (λi=>Option.map (λx=>x.hash) ($x)[i]?))
|`(∅)=>do let m:=Lean.mkIdent;`($(m `L2.Inv) $(m `X) $(m `p0) $(m `Y) $(m `H) $(m `s))
theorem _root_.xN{M:PySem.Model}{A:PySem.Around}{E:PySem.Value->PySem.Shared->Prop}{s:PySem.Shared}{α:Type}{c:Prop}[Decidable c]{a b:PySem.Sem α}{Q:α->PySem.Shared->Prop}(h:¬c)(k:PySem.wpAny M A b Q E s):PySem.wpAny M A (if c then a else b) Q E s:=PySem.wpAny_ite_split (absurd · h) λ_=>k
local macro_rules
|`(#[])=>`(by decide +kernel)
|`(#[$xs,*])=>`(⟨$xs,*⟩)
theorem mS{α:Type}{a:α}{l:List α}:a∈a::l:=List.mem_cons_self
theorem mL{α:Type}{a:α}{l m:List α}(h:a∈l):a∈l++m:=List.mem_append_left m h
theorem mR{α:Type}{a:α}{l m:List α}(h:a∈m):a∈l++m:=List.mem_append_right l h
theorem mE{α:Type}{a b:α}(h:a∈[b]):a=b:=mem_singleton.mp h
theorem mZ{α:Type}{a:α}{l m:List α}(h:a∈l++m):a∈l\/a∈m:=mem_append.mp h
theorem dF{p:Prop}[Decidable p](h:¬p):decide p=false:=decide_eq_false h
theorem dZ{p:Prop}[Decidable p](h:p):decide p=true:=decide_eq_true h
theorem oM{α β:Type}{x:Option α}{f:α->β}{b:β}(h:x.map f=some b):∃a,x=some a/\f a=b:=Option.map_eq_some_iff.mp h
theorem lA{α:Type}{a b:List α}:(a++b).length=a.length+b.length:=List.length_append
theorem lS{α:Type}{a:α}:[a].length=1:=rfl
theorem lC{α:Type}{a:α}{l:List α}:(a::l).length=l.length+1:=rfl
theorem lM{α β:Type}{f:α->β}{l:List α}:(l.map f).length=l.length:=List.length_map f
theorem bA(a b:Bool):((a&&b)=true)=(a=true/\b=true):=Bool.and_eq_true a b
theorem PySem.wB{α β:Type}{M:PySem.Model}{A:PySem.Around}{E:PySem.Value->PySem.Shared->Prop}{s:PySem.Shared}{m:PySem.Sem α}{f:α->PySem.Sem β}{Q:β->PySem.Shared->Prop}(h:PySem.wpAny M A m (λa s'=>PySem.wpAny M A (f a) Q E s') E s):PySem.wpAny M A (m>>=f) Q E s:=PySem.wpAny_bind h
theorem PySem.gP{h:PySem.Heap}{b:PySem.Addr}{o u:PySem.Obj}(e:h.get? b=some u):(h.push o).get? b=some u:=PySem.Heap.get?_push_of_some o e
theorem iP{c:Prop}{i:Decidable c}(h:c){α:Type}{t e:α}:(@ite α c i t e)=t:=if_pos h
theorem iN{c:Prop}{i:Decidable c}(h:¬c){α:Type}{t e:α}:(@ite α c i t e)=e:=if_neg h
theorem PySem.hZ{h:PySem.Heap}{a:PySem.Addr}{o:PySem.Obj}(e:h.get? a=some o):a<h.objs.size:=PySem.Heap.lt_size e
namespace L2
open PySem PySem.Spec PyProof.Rows
abbrev Key:=Sum Int Str
def UD:Key->Value->Bool
 |.inl k,v=>Value.isInt k v
 |.inr x,v=>Value.isStrOf x v
def bK(w:World):Key->Int
 |.inl k=>hashInt k
 |.inr x=>hashStr w x
theorem AY:∀{k:Key} {v:Value},UD k v=true->(∃i t,k=Sum.inl i/\v=Value.int i t)\/(∃x t,k=Sum.inr x/\v=Value.str x t)
 | .inl i,v,h=>by
   rintro⟨t,e⟩:Value.isInt_shape (k:=i) (v:=v) h;exact .inl #[i,t,rfl,e]
 | .inr x,v,h=>by
   rintro⟨t,e⟩:Value.isStrOf_shape (x:=x) (v:=v) h;exact .inr #[x,t,rfl,e]
theorem WR(a b:Int):decide ((Sum.inl a:Key)=Sum.inl b)=(a == b):=by
 by_cases e:a=b
 .subst e;simp
 .have h:¬(Sum.inl a:Key)=Sum.inl b:=λq=>e (Sum.inl.inj q)
  rw[dF h];exact(beq_eq_false_iff_ne.mpr e).symm
theorem WN(a b:Str):decide ((Sum.inr a:Key)=Sum.inr b)=decide (a=b):=by
 by_cases e:a=b
 .subst e;simp
 .have h:¬(Sum.inr a:Key)=Sum.inr b:=λq=>e (Sum.inr.inj q)
  rw[dF h,dF e]
theorem WQ(a:Int)(b:Str):decide ((Sum.inl a:Key)=Sum.inr b)=false:=dF (λq=>nomatch q)
theorem WO(a:Str)(b:Int):decide ((Sum.inr a:Key)=Sum.inl b)=false:=dF (λq=>nomatch q)
noncomputable def IE(prog:Program)(w:World):PySem.KeyKind prog w Key where
 is:=UD
 hash:=bK w
 inj :=λv a b ha hb=>by
  rcases AY ha with⟨i,t,rfl,rfl⟩|⟨x,t,rfl,rfl⟩
  .rcases AY hb with⟨j,u,rfl,e⟩|⟨y,u,rfl,e⟩
   .injection e with e1 _;rw[e1]
   .exact nomatch e
  .rcases AY hb with⟨j,u,rfl,e⟩|⟨y,u,rfl,e⟩
   .exact nomatch e
   .injection e with e1 _;rw[e1]
 byValue:=λk v h=>by
  rcases AY h with⟨i,t,rfl,rfl⟩|⟨x,t,rfl,rfl⟩<;>rfl
 pyHash:=λhv h=>by
  rcases AY hv with⟨i,t,rfl,rfl⟩|⟨x,t,rfl,rfl⟩
  .exact wpAny_pyHash_int h
  .exact wpAny_pyHash_str h
 eqBool:=λhu hv h=>by
  rcases AY hu with⟨i,t,rfl,rfl⟩|⟨x,t,rfl,rfl⟩
  .rcases AY hv with⟨j,u,rfl,rfl⟩|⟨y,u,rfl,rfl⟩
   .rw[WR]at h;exact wpAny_eqBool_int h
   .rw[WQ]at h;exact SeqAt.EqAt.int_str i t y u _ _ _ _ h
  .rcases AY hv with⟨j,u,rfl,rfl⟩|⟨y,u,rfl,rfl⟩
   .rw[WO]at h;exact SeqAt.EqAt.str_int x t j u _ _ _ _ h
   .rw[WN]at h;exact wpAny_eqBool_str h
 «strs»:=λk x t v h=>by
  rcases AY h with⟨i,u,rfl,e⟩|⟨y,u,rfl,e⟩
  .exact nomatch e
  .injection e with e1 _
   subst e1;cases v<;>rfl
inductive V where
 |AG|bl (b:Bool)|int (i:Int)|str (x:Str)|XT (b:Array UInt8)|ao (b:UInt64)|ref (a:Addr)|ty (n:String)
 deriving DecidableEq
noncomputable def RelV:V->Value->Prop
 |.AG,u=>u=Value.none
 |.bl b,u=>u=Value.bool b
 |.int i,u=>∃t,u=Value.int i t
 |.str x,u=>∃t,u=Value.str x t
 |.XT b,u=>∃t,u=Value.bytes b t
 |.ao b,u=>∃t,u=Value.float b t
 |.ref a,u=>u=Value.ref a
 |.ty n,u=>u=Value.type n
abbrev Vals:List V->List Value->Prop:=Paired RelV
variable{us:List Value}
theorem Vals.length{xs:List V}(r:Vals xs us):xs.length=us.length:=Paired.length r
theorem Vals.get:∀{xs:List V} {us:List Value} {i:Nat} {x:V},Vals xs us->xs[i]? =some x->∃u,us[i]? =some u/\RelV x u
 |_,_,_,_,.nil,e=>by simp at e
 |_,_,0,_,.cons r _,e=>by simp at e;subst e;exact#[_,rfl,r]
 | _,_,i + 1,x,.cons _ t,e=>by
   rintro⟨u,h1,h2⟩:Vals.get (i:=i) (x:=x) t (by simpa using e);exact#[u,by simpa using h1,h2]
theorem Vals.set(r:RelV x u):∀{xs:List V} {us:List Value} (i:Nat),Vals xs us->Vals (xs.set i x) (us.set i u)
 |_,_,_,.nil=>.nil
 |_,_,0,.cons _ t=>.cons r t
 |_,_,i+1,.cons q t=>.cons q (Vals.set r i t)
theorem Vals.append:∀{xs ys:List V} {us ws:List Value},Vals xs us->Vals ys ws->Vals (xs++ys) (us++ws)
 |_,_,_,_,.nil,s=>s
 |_,_,_,_,.cons r t,s=>.cons r (Vals.append t s)
theorem Vals.take:∀{xs:List V} {us:List Value} (n:Nat),Vals xs us->Vals (xs.take n) (us.take n)
 |_,_,0,_=>.nil
 |_,_,_+1,.nil=>.nil
 |_,_,n+1,.cons r t=>.cons r (Vals.take n t)
theorem Vals.drop:∀{xs:List V} {us:List Value} (n:Nat),Vals xs us->Vals (xs.drop n) (us.drop n)
 |_,_,0,r=>r
 |_,_,_+1,.nil=>.nil
 |_,_,n+1,.cons _ t=>Vals.drop n t
def Hm:Option V->Option Value->Prop
 |some v,some u=>RelV v u
 |none,none=>True
 |_,_=>False
def KV{κ:Type}:List (κ×V)->List (κ×Value)->Prop:=Paired λ(p:κ×V) (q:κ×Value)=>p.1=q.1/\RelV p.2 q.2
def kV:Key->V
 |.inl i=>.int i
 |.inr x=>.str x
inductive HO where
 |lst (xs:List V)
 |tup (xs:List V)
 |dK (kvs:List (Key×V))|dT (kvs:List (List Key×V))
 |set (S:Int->Bool)(n:Nat)
 |ins (C dx:Addr)(fs:List (Str×V))
 |own (x:Addr)
 |xd (fs:List (Str×V))
 |met (f x:Addr)
 |XE (lo hi:Int)
 |CK (o:Obj)(u:HO)
 |Jp (ps:Array Value)
 |ext (φ:Heap->Prop)
abbrev Hp:=Addr->Option HO
def upd(H:Hp)(a:Addr)(o:HO):Hp:=λb=>if b=a then some o else H b
variable{H:Hp}
theorem A6:upd H a o a=some o:=by unfold upd;rw[iP rfl]
theorem A4{a b:Addr}(h:b≠a):upd H a o b=H b:=by unfold upd;rw[iN h]
theorem AI{o:HO}(h:H a=some o)(h':H b=none):a≠b:=by
 intro e;subst e;rw[h]at h';cases h'
section
variable (P:Program)(w:World)
noncomputable def Br(H:Hp)(h:Heap)(a:Addr):HO->Prop
 |.lst xs=>xs.length<=sizeLine/\∃(its:List Value) (n:Nat),Vals xs its/\h.get? a=some {cls:=.type "list",data:=.seq its.toArray n}
 |.tup xs=>xs.length<=sizeLine/\∃its:List Value,Vals xs its/\IsTup h a its.toArray
 |.dK kvs=>kvs.length<=sizeLine/\(a == sysModules)=false/\∃vs,KV kvs vs/\h.DictOf (IE P w) a vs
 | .dT kvs=>kvs.length<=sizeLine/\(a == sysModules)=false/\∃xs:List (List Key×Addr×Value),
  Paired (λ(p:List Key×V) (q:List Key×Addr×Value)=>p.1=q.1/\H q.2.1=some (.tup (p.1.map kV))/\RelV p.2 q.2.2) kvs xs/\
  ∃o es ep,h.get? a=some o/\o.ExactDict/\o.data= .dict es ep/\es.toList=xs.map (entryOfKey (tupleKind (IE P w)))/\(xs.map (·.1)).Nodup
 |.set S n=>h.SetOf (intKind P w) a S n
 | .ins C dx fs=>H dx=some (.own a)/\fs.length<=1000/\dx≠a/\h.get? a=some (instObj C dx)/\
  ∃mA,h.Ns1 dx mA/\(∀f,Hm (fs.lookup f) (mA f))/\PySem.Within mA (fs.map (·.1))
 |.own _=>∃o,h.get? a=some o
 |.xd fs=>∃mA,h.Ns1 a mA/\∀f,Hm (fs.lookup f) (mA f)
 |.XE lo hi=>∃t u v,h.get? a=some {cls:=.type "range",data:=.fields [.int lo t,.int hi u,.int 1 v].toArray}
 |.CK o u=>h.get? a=some o/\Br H h a u
 |.Jp ps=>h.get? a=some {cls:=.none,data:=.fields ps}
 |.met f x=>h.get? a=some (methodObj (.ref f) (.ref x))
 |.ext φ=>φ h/\(∃o,h.get? a=some o)/\∀h1 h2:Heap,φ h1->(∀o,h1.get? a=some o->h2.get? a=some o)->φ h2
def DD(H:Hp)(h:Heap):Prop:=∀a o,H a=some o->Br P w H h a o
end
section
variable{P:Program}{w:World}{H H':Hp}{h h':Heap}{a:Addr}{o:HO}
theorem Br.lt(x:Br P w H h a o):a < h.objs.size:=by
 cases o with
 |lst xs=>rintro⟨_,_,_,_,e⟩:x;exact hZ e
 |tup xs=>rintro⟨_,_,_,p⟩:x;exact p.lt
 |dK kvs=>rintro⟨_,_,_,_,o,_,_,e,_⟩:x;exact hZ e
 |dT kvs=>rintro⟨_,_,_,_,o,_,_,e,_⟩:x;exact hZ e
 |set S n=>rintro⟨o,_,_,_,e,_⟩:x;exact hZ e
 |ins C dx fs=>rintro⟨_,_,_,e,_⟩:x;exact hZ e
 |own y=>rintro⟨_,e⟩:x;exact hZ e
 |xd fs=>rintro⟨_,⟨_,_,_,e,_⟩,_⟩:x;exact hZ e
 |XE lo hi=>rintro⟨_,_,_,e⟩:x;exact hZ e
 |CK b u=>rintro⟨e,_⟩:x;exact hZ e
 |Jp ps=>exact hZ (show h.get? a=some _ from x)
 |met f y=>exact hZ (show h.get? a=some _ from x)
 |ext φ=>rintro⟨_,⟨_,e⟩,_⟩:x;exact hZ e
theorem Paired.EY{α β:Type}{F G:α->β->Prop}:∀{l₁:List α} {l₂:List β},Paired F l₁ l₂->(∀a b,F a b->G a b)->Paired G l₁ l₂
 |_,_,.nil,_=>.nil
 |_,_,.cons r t,f=>.cons (f _ _ r) (Paired.EY t f)
theorem Br.H9(x:Br P w H h a o)(k:∀b u,(b=a\/H b=some (.own a))->h.get? b=some u->h'.get? b=some u)
 (m:∀b,H b=some (.own a)->H' b=some (.own a))(l:∀b xs,H b=some (.tup xs)->H' b=some (.tup xs)):Br P w H' h' a o:=by
 induction o with
 |lst xs=>rintro⟨z,its,n,r,e⟩:x;exact#[z,its,n,r,k _ _ (.inl rfl) e]
 |tup xs=>rintro⟨z,its,r,g,e,c⟩:x;exact#[z,its,r,g,k _ _ (.inl rfl) e,c]
 |dK kvs=>rintro⟨z,y,vs,r,g,es,ep,e,c⟩:x;exact#[z,y,vs,r,g,es,ep,k _ _ (.inl rfl) e,c]
 |dT kvs=>
   rintro⟨z,y,xs,r,g,es,ep,e,c⟩:x;exact#[z,y,xs,Paired.EY r λp q z=>#[z.1,l _ _ z.2.1,z.2.2],g,es,ep,k _ _ (.inl rfl) e,c]
 |set S n=>rintro⟨g,es,ep,t,e,c⟩:x;exact#[g,es,ep,t,k _ _ (.inl rfl) e,c]
 |ins C dx fs=>
   rintro⟨d,z,ne,e,mA,⟨i,es,ep,e2,c⟩,r⟩:x;exact#[m _ d,z,ne,k _ _ (.inl rfl) e,mA,#[i,es,ep,k _ _ (.inr d) e2,c],r]
 |own y=>rintro⟨g,e⟩:x;exact#[g,k _ _ (.inl rfl) e]
 |xd fs=>rintro⟨mA,⟨i,es,ep,e,c⟩,r⟩:x;exact#[mA,#[i,es,ep,k _ _ (.inl rfl) e,c],r]
 |XE lo hi=>rintro⟨t,u,v,e⟩:x;exact#[t,u,v,k _ _ (.inl rfl) e]
 |CK g u j=>rintro⟨e,q⟩:x;exact#[k _ _ (.inl rfl) e,j q]
 |Jp ps=>
   have e:h.get? a=some {cls:=.none,data:=.fields ps}:=x;show h'.get? a=some {cls:=.none,data:=.fields ps};exact k a _ (.inl rfl) e
 |met f y=>
   have e:h.get? a=some (methodObj (.ref f) (.ref y)):=x;show h'.get? a=some (methodObj (.ref f) (.ref y));exact k a _ (.inl rfl) e
 |ext φ=>rintro⟨p,⟨o,e⟩,st⟩:x;exact#[st _ _ p λo q=>k _ _ (.inl rfl) q,#[o,k _ _ (.inl rfl) e],st]
theorem DD.lt(x:DD P w H h)(e:H a=some o):a < h.objs.size:=(x a o e).lt
theorem DD.fresh(x:DD P w H h)(e:h.objs.size<=a):H a=none:=by
 cases q:H a with
 |none=>rfl
 |some u=>exact absurd (Nat.lt_of_lt_of_le (x.lt q) e) (Nat.lt_irrefl _)
theorem DD.kept(x:DD P w H h)(k:∀b u,h.get? b=some u->h'.get? b=some u):DD P w H h':=λa o e=>
 (x a o e).H9 (λb u _ q=>k b u q) (λ_ q=>q) λ_ _ q=>q
theorem DD.laid(x:DD P w H h)(k:∀b u,h.get? b=some u->h'.get? b=some u)(g:h.objs.size<=a)(new:Br P w (upd H a o) h' a o):DD P w (upd H a o) h':=λb u e=>by
 have d:=x.fresh g
 by_cases f:b=a
 .subst f;rw[A6]at e;cases e;exact new
 .rw[A4 f]at e;exact(x b u e).H9 (λc v _ q=>k c v q) (λc q=>by rw[A4 (AI q d)];exact q) λc xs q=>by rw[A4 (AI q d)];exact q
end
def Rd(H:Hp)(a:Addr)(u:HO):Prop:=H a=some u\/∃o,H a=some (.CK o u)
variable{h:Heap}
theorem Rd.ok{P:Program}{w:World}(r:Rd H a u)(x:DD P w H h):Br P w H h a u:=by
 rcases r with r|⟨o,r⟩
 .exact x a u r
 .obtain⟨_,q⟩:=x a _ r;exact q
def ZX:Option HO->Prop
 |some (.lst _)=>True
 |some (.dK _)=>True
 |some (.dT _)=>True
 |some (.set _ _)=>True
 |some (.ins _ _ _)=>True
 |some (.ext _)=>True
 |_=>False
section
variable{P:Program}{w:World}{H:Hp}{h h':Heap}{x e:Addr}{o':HO}
theorem DD.write(ok:DD P w H h)(mu:ZX (H x))(he:e=x\/H e=some (.own x))(k:∀b u,b≠e->h.get? b=some u->h'.get? b=some u)(j:∃u,h'.get? e=some u)
 (new:Br P w (upd H x o') h' x o'):DD P w (upd H x o') h':=λb u q=>by
 have d:∀c y,H c=some (.own y)->c≠x:=λc y r z=>by subst z;rw[r]at mu;exact mu
 have f:∀c xs,H c=some (.tup xs)->c≠x:=λc xs r z=>by subst z;rw[r]at mu;exact mu
 by_cases i:b=x
 .subst i;rw[A6]at q;cases q;exact new
 .rw [A4 i]at q
  by_cases a:b=e
  .have l:H b=some (.own x):=by
    rcases he with z|z
    .exact absurd (a.trans z) i
    .rw[a];exact z
   rw[q]at l;cases l;rintro⟨v,m⟩:j;exact#[v,by rw[a];exact m]
  .refine(ok b u q).H9 (λc v g r=>k c v ?_ r) (λc r=>by rw[A4 (d c b r)];exact r) λc xs r=>by rw[A4 (f c xs r)];exact r
   rcases g with rfl|g
   .exact a
   .rintro rfl
    rcases he with z|z
    .exact d c b g z
    .rw[g]at z;cases z;exact i rfl
end
structure Un(fs ex:List Addr)(H H':Hp)(h h':Heap):Prop where
 keep:∀b o,h.get? b=some o->H b=none->b∉fs->b∉ex->h'.get? b=some o
 slot:∀b o,h.get? b=some o->H b=none->b∈fs->b∉ex->∃sl,h'.get? b=some {o with slots:=sl}
 free:∀b o,h.get? b=some o->H b=none->b∉ex->H' b=none
 there:∀b o,h.get? b=some o->b∉ex->∃o',h'.get? b=some o'
 Jm:∀b xs,H b=some (.tup xs)->H' b=some (.tup xs)
 IS:∀b o u,H b=some (.CK o u)->H' b=some (.CK o u)
 Ii:∀b ps,H b=some (.Jp ps)->∃more,H' b=some (.Jp (ps++more))
section
variable{fs fs' ex ex':List Addr}{H H1 H2:Hp}{h h1 h2 h':Heap}{a x e:Addr}{o:HO}
theorem Un.any(u:Un fs ex H H1 h h1){c:Obj}(q:h.get? b=some c)(n:H b=none)(d:b∉ex):∃sl,h1.get? b=some {c with slots:=sl}:=by
 by_cases f:b∈fs
 .exact u.slot b c q n f d
 .exact#[c.slots,u.keep b c q n f d]
theorem Un.kept(k:∀b u,h.get? b=some u->h'.get? b=some u):Un fs ex H H h h':=
 #[λb c q _ _ _=>k b c q,λb c q _ _ _=>#[c.slots,k b c q],λ_ _ _ n _=>n,λb c q _=>#[c,k b c q],λ_ _ q=>q,λ_ _ _ q=>q,λ_ ps q=>#[[].toArray,by rw[q];simp]]
theorem Un.refl:Un fs ex H H h h:=Un.kept λ_ _ q=>q
theorem Un.laid(k:∀b u,h.get? b=some u->h'.get? b=some u)(d:h.objs.size<=a)(c:H a=none):Un fs ex H (upd H a o) h h' where
 keep:=λb u q _ _ _=>k b u q
 slot:=λb u q _ _ _=>#[u.slots,k b u q]
 free:=λb u q n _=>by rw[A4 (Nat.ne_of_lt (Nat.lt_of_lt_of_le (hZ q) d))];exact n
 there:=λb u q _=>#[u,k b u q]
 Jm:=λb xs q=>by rw[A4 (AI q c)];exact q
 IS:=λb u xs q=>by rw[A4 (AI q c)];exact q
 Ii:=λb ps q=>#[[].toArray,by rw[A4 (AI q c),q];simp]
theorem Un.write(mu:ZX (H x))(he:e=x\/H e=some (.own x))(k:∀b u,b≠e->h.get? b=some u->h'.get? b=some u)(d:∃u,h'.get? e=some u):Un fs ex H (upd H x o) h h':=by
 have f:∀b,H b=none->b≠x:=λb n z=>by subst z;rw[n]at mu;exact mu
 have g:∀b,H b=none->b≠e:=λb n z=>by
  subst z;rcases he with r|r
  .exact f b n r
  .rw[n]at r;cases r
 have hm:∀b u,H b=some u->¬ZX (some u)->b≠x:=λb u q nm z=>by subst z;rw[q]at mu;exact nm mu
 refine⟨λb u q n _ _=>k b u (g b n) q,λb u q n _ _=>#[u.slots,k b u (g b n) q],λb u q n _=>by rw[A4 (f b n)];exact n,λb u q _=>?_,
  λb xs q=>by rw[A4 (hm b _ q λz=>z)];exact q,λb u xs q=>by rw[A4 (hm b _ q λz=>z)];exact q,λb ps q=>#[[].toArray,by rw[A4 (hm b _ q λz=>z),q];simp]⟩
 by_cases c:b=e
 .subst c;exact d
 .exact#[u,k b u c q]
end
def ag(h:Heap)(H:Hp):List Addr:=(List.range h.objs.size).filter λa=>(H a).isSome
def Hf(h:Heap)(H:Hp):Heap:=hideAll h (ag h H)
theorem Nw(h:Heap)(H:Hp):(Hf h H).objs.size=h.objs.size:=hideAll_size _ _
theorem Q3{o:Obj}(e:h.get? b=some o)(n:H b=none):(Hf h H).get? b=some o:=
 hideAll_get _ e λhm=>by
  have q:(H b).isSome=true:=(mem_filter.mp hm).2;rw[n]at q;simp at q
theorem Si{o:Obj}(e:(Hf h H).get? b=some o):h.get? b=some o/\H b=none:=by
 have a:h.get? b=some o:=of_hideAll (ag h H) e;refine#[a,?_];cases q:H b with
 |none=>rfl
 |some x=>
   have hm:b∈ag h H:=mem_filter.mpr #[mem_range.mpr (hZ a),by simp[q]];have z:(Hf h H).get? b=none:=hideAll_none (ag h H) hm;rw[z]at e;cases e
def TN(g h:Heap)(L:Addr):List (Addr×Obj):=(List.range h.objs.size).filterMap λa=>if a=L\/(g.get? a).isSome=true then none else(h.get? a).map λo=>(a,o)
def rest(g h:Heap)(L d:Addr):List (Addr×Obj):=(TN g h L).filter λp=>decide (p.1≠d)
structure Mod(K:Frag)(mg:Str->Option Value)(base:Heap):Prop where
 By:K.In base
 glob:base.Ns mainGlobals mg
 blt:∃mb,base.Ns builtinsNs mb/\∀x:Str,x≠"__name__"->mb x=bootBuiltins x
 nolimit:base.NoLimit
structure Cx where
 prog:Program
 w:World
 K:Frag
 mg:Str->Option Value
 base:Heap
 A:Around
 N:List Str
 s₀:Shared
 H₀:Hp
 env:Env
 outer:List Env
 stack:List Env
 ex:List Addr
 fn:Str->Bool
 calm:Bool
 pn:List (Addr×Obj)
 xe:Value->Shared->Prop
def Lp(l:List Env):List Addr:=l.filterMap (·.frame)
abbrev Cx.fs(X:Cx):List Addr:=Lp X.outer
def aB(sc:Scope)(x:Str):Prop:=sc.names.lookup x=some .local\/sc.names.lookup x=some .cell\/sc.names.lookup x=some .free
def Loc(sc:Scope)(x:Str):Prop:=sc.names.lookup x=some .local\/sc.names.lookup x=some .cell
def Look(env:Env)(h:Heap)(m:Str->Option Value)(x:Str)(u:Value):Prop:=
 (env.kindOf x=some .local/\m x=some u)\/((env.kindOf x=some .cell\/env.kindOf x=some .free)/\∃c,env.cells.lookup x=some c/\h.IsCell c (some u))
structure Cx.Ok(X:Cx):Prop where
 mod:Mod X.K X.mg X.base
 kind:X.env.scope.kind= .function
 glob:X.env.globals=mainGlobals
 blt:X.env.builtins=builtinsNs
 above:X.s₀.heap.objs.size<=X.env.locals
 inj:∀x y c,X.env.cells.lookup x=some c->X.env.cells.lookup y=some c->x=y
 has:∀x,(X.env.kindOf x=some .cell\/X.env.kindOf x=some .free)->∃c,X.env.cells.lookup x=some c
 az:∀x c,X.fn x=true->X.env.cells.lookup x=some c->X.s₀.heap.objs.size<=c
 hd:X.calm=true->X.A.handled=none
 frames:X.A.frames=some X.stack
 cZ:X.stack=X.outer\/(X.stack=X.env::X.outer/\X.env.frame=some X.env.locals)
 du:∀b∈X.ex,b≠X.env.locals/\∀x c,X.env.cells.lookup x=some c->c≠b
 bs:∀b o,X.base.get? b=some o->X.s₀.heap.get? b=some o/\X.H₀ b=none
 UT:X.base.objs.size<=X.s₀.heap.objs.size
 Wz:∀b o,X.base.get? b=some o->b∉X.ex
 Xd:∀b∈X.ex,b∉X.fs
 FP:X.s₀.heap.FunFrames X.base X.outer
 XR:∀b∈X.fs,X.H₀ b=none
structure Inv(X:Cx)(p0:Oa)(Y:List (Option V))(H:Hp)(s:Shared):Prop where
 ok:X.Ok
 os:s.os=X.s₀.os
 bare:AllBare s.gens
 base:Un X.fs X.ex X.H₀ H X.s₀.heap s.heap
 loc:∃m,s.heap.Ns X.env.locals m/\∀(i:Nat) (x:Str) (v:V),X.N[i]? =some x->Y[i]? =some (some v)->aB X.env.scope x->∃u,RelV v u/\Look X.env s.heap m x u
 cell:∀x c,X.env.cells.lookup x=some c->∃v,s.heap.IsCell c v
 free:H X.env.locals=none
 EA:∀x c,X.env.cells.lookup x=some c->H c=none
 pin:∀p∈X.pn++p0,s.heap.get? p.1=some p.2/\H p.1=none/\p.1≠X.env.locals/\p.1∉X.fs/\∀v,p.2.data≠.cell v
 Aj:DD X.prog X.w H s.heap
 len:Y.length=X.N.length
variable{X:Cx}{p0:Oa}{Y:List (Option V)}{H H':Hp}{s:Shared}{h':Heap}
theorem Cx.Ok.bD(ok:X.Ok){o:Obj}(e:X.base.get? b=some o):b∉X.fs:=λa=>by
 have:=(ok.FP.mem a).1;rw[e]at this;cases this
theorem Inv.bs(I:∅):∀b o,X.base.get? b=some o->s.heap.get? b=some o/\H b=none:=λb o e=>
 #[I.base.keep b o (I.ok.bs b o e).1 (I.ok.bs b o e).2 (I.ok.bD e) (I.ok.Wz b o e),I.base.free b o (I.ok.bs b o e).1 (I.ok.bs b o e).2 (I.ok.Wz b o e)]
theorem Inv.bk(I:∅):∀b o,X.base.get? b=some o->s.heap.get? b=some o:=λb o e=>(I.bs b o e).1
theorem Inv.mod(I:∅):Mod X.K X.mg X.base:=I.ok.mod
theorem Inv.GC(I:∅):X.K.In s.heap:=I.ok.mod.By.keeps I.bk
theorem Inv.lt(I:∅):X.env.locals < s.heap.objs.size:=let⟨_,a,_⟩:=I.loc;a.lt
theorem Inv.sz(I:∅):X.s₀.heap.objs.size<=s.heap.objs.size:=Nat.le_trans I.ok.above (Nat.le_of_lt I.lt)
theorem Inv.Wx(I:∅){a:Addr}(h:s.heap.objs.size<=a):a∉X.fs:=λc=>by
 rintro⟨_,o,b,_⟩:I.ok.FP.mem c;exact absurd (Nat.lt_of_lt_of_le (hZ b) (Nat.le_trans I.sz h)) (Nat.lt_irrefl _)
theorem Inv.US(I:∅):∀x c,X.env.cells.lookup x=some c->c≠X.env.locals:=λx c e z=>by
 rintro⟨v,o,d,hd⟩:I.cell x c e;rintro⟨m,⟨o',es,ep,a,b,_⟩,_⟩:I.loc;rw[z,a]at d;cases d;rw[b]at hd;cases hd
theorem Inv.FP(I:∅):s.heap.FunFrames X.base X.outer:=by
 have all:∀(l:List Env),(∀b∈Lp l,b∈X.fs)->X.s₀.heap.FunFrames X.base l->s.heap.FunFrames X.base l:=by
  intro l
  induction l with
  |nil=>intro _ _;trivial
  |cons env r d=>
    intro hs hl;rintro⟨j,⟨L,o,hf,i,g,hd⟩,f⟩:hl;have c:L∈X.fs:=hs L (by unfold Lp;rw[filterMap_cons,hf];exact mS);rintro⟨sl,e⟩:I.base.slot L o g (I.ok.XR L c) c λz=>I.ok.Xd L z c
    exact#[j,#[L,_,hf,i,e,hd],d (λb a=>hs b (by unfold Lp;rw[filterMap_cons,hf];exact mem_cons_of_mem _ a)) f]
 exact all X.outer (λ_ a=>a) I.ok.FP
theorem Inv.stack(I:∅):s.heap.FunFrames X.base X.stack:=by
 rcases I.ok.cZ with e|⟨e,hf⟩
 .rw[e];exact I.FP
 .rw[e];rintro⟨m,a,_⟩:I.loc;refine .cons (by rw[I.ok.kind];decide) hf a ?_ I.FP;exact Heap.get?_none_of_le (Nat.le_trans I.ok.UT I.ok.above)
theorem Inv.Gh(I:∅):∀b∈Lp X.stack,b∈X.env.locals::X.fs:=λb a=>by
 rcases I.ok.cZ with e|⟨e,hf⟩
 .rw[e]at a;exact mem_cons_of_mem _ a
 .rw[e]at a;unfold Lp at a;rw[filterMap_cons,hf]at a;exact a
theorem Inv.Iq(I:∅):∀b∈Lp X.stack,H b=none:=λb a=>by
 rcases mem_cons.mp (I.Gh b a)with e|a
 .rw[e];exact I.free
 .obtain⟨_,o,c,_⟩:=I.ok.FP.mem a;exact I.base.free b o c (I.ok.XR b a) λz=>I.ok.Xd b z a
variable{g':Array GenState}{t':Nat}{d':Drawn}{ch:List Addr}
theorem Inv.step(I:∅)
 (g:∀b∈ch,(b∈X.ex\/X.s₀.heap.objs.size<=b)/\b≠X.env.locals/\(∀x c,X.env.cells.lookup x=some c->c≠b)/\∀p∈X.pn++p0,p.1≠b)
 (keep:∀b o,b≠X.env.locals->b∉X.fs->b∉ch->s.heap.get? b=some o->H b=none->h'.get? b=some o)
 (slot:∀b o,b≠X.env.locals->b∈X.fs->b∉ch->s.heap.get? b=some o->H b=none->∃sl,h'.get? b=some {o with slots:=sl})(free:∀b o,b∉ch->s.heap.get? b=some o->H b=none->H' b=none)
 (there:∀b o,b∉ch->s.heap.get? b=some o->∃o',h'.get? b=some o')
 (Jm:∀b xs,H b=some (.tup xs)->H' b=some (.tup xs))(IS:∀b o u,H b=some (.CK o u)->H' b=some (.CK o u))(Ii:∀b ps,H b=some (.Jp ps)->∃more,H' b=some (.Jp (ps++more)))
 (ns:∀m,s.heap.Ns X.env.locals m->h'.Ns X.env.locals m)(Aj:DD X.prog X.w H' h')(J:AllBare g'):
 Inv X p0 Y H' {s with heap:=h',gens:=g',drawn:=d',toks:=t'}:=by
 have A:∀b o,X.s₀.heap.get? b=some o->b≠X.env.locals:=λb o e=>Nat.ne_of_lt (Nat.lt_of_lt_of_le (hZ e) I.ok.above)
 have j:∀b o,X.s₀.heap.get? b=some o->b∉X.ex->b∉ch:=λb o e a t=>by
  rcases(g b t).1 with z|z
  .exact a z
  .exact absurd (Nat.lt_of_lt_of_le (hZ e) z) (Nat.lt_irrefl _)
 have cellK:∀x c,X.env.cells.lookup x=some c->∀v,s.heap.IsCell c v->h'.IsCell c v:=λx c e v ⟨o,y,hd⟩=>by
  have f:c∉ch:=λz=>(g c z).2.2.1 x c e rfl
  by_cases D:c∈X.fs
  .obtain⟨sl,q⟩:=slot c o (I.US x c e) D f y (I.EA x c e);exact#[_,q,hd]
  .exact#[o,keep c o (I.US x c e) D f y (I.EA x c e),hd]
 refine#[I.ok,I.os,J,#[λb o e n t a=>?_,λb o e n t a=>?_,λb o e n a=>?_,λb o e a=>?_,λb xs e=>Jm b xs (I.base.Jm b xs e),λb o xs e=>IS b o xs (I.base.IS b o xs e),λb ps e=>?_],?_,λx c e=>?_,?_,λx c e=>?_,λp C=>?_,Aj,I.len]
 .exact keep b o (A b o e) t (j b o e a) (I.base.keep b o e n t a) (I.base.free b o e n a)
 .obtain⟨sl,e1⟩:=I.base.slot b o e n t a;rintro⟨B,e2⟩:slot b _ (A b o e) t (j b o e a) e1 (I.base.free b o e n a);exact#[B,e2]
 .obtain⟨o',e1⟩:=I.base.there b o e a;exact free b o' (j b o e a) e1 (I.base.free b o e n a)
 .obtain⟨o',e1⟩:=I.base.there b o e a;exact there b o' (j b o e a) e1
 .obtain⟨F,e1⟩:=I.base.Ii b ps e;rintro⟨E,e2⟩:Ii b _ e1;exact#[F++E,by rw[e2,Array.append_assoc]]
 .obtain⟨m,G,hl⟩:=I.loc;refine#[m,ns m G,λi x v e1 e2 K=>?_];rintro⟨u,r,l⟩:hl i x v e1 e2 K;refine#[u,r,?_];rcases l with l|⟨k,c,e,z⟩
  .exact .inl l
  .exact .inr #[k,c,e,cellK x c e _ z]
 .obtain⟨v,z⟩:=I.cell x c e;exact#[v,cellK x c e v z]
 .obtain⟨m,⟨o,_,_,y,_⟩,_⟩:=I.loc;exact free _ o (λz=>(g _ z).2.1 rfl) y I.free
 .obtain⟨v,o,y,hd⟩:=I.cell x c e;exact free c o (λz=>(g c z).2.2.1 x c e rfl) y (I.EA x c e)
 .obtain⟨e,n,ne,nf,d⟩:=I.pin p C;have f:p.1∉ch:=λz=>(g p.1 z).2.2.2 p C rfl
  exact#[keep p.1 p.2 ne nf f e n,free p.1 p.2 f e n,ne,nf,d]
theorem Inv.un(I:∅)(u:Un X.fs [] H H' s.heap h')(Aj:DD X.prog X.w H' h'):Inv X p0 Y H' {s with heap:=h',toks:=t'}:=by
 rintro⟨m,⟨o,es,ep,g,r⟩,_⟩:id I.loc;rintro⟨sl,i⟩:u.any g I.free (by simp)
 exact I.step (g':=s.gens) (d':=s.drawn) (ch:=[]) (λ_ z=>nomatch z) (λb o _ c _ e n=>u.keep b o e n c (by simp)) (λb o _ c _ e n=>u.slot b o e n c (by simp)) (λb o _ e n=>u.free b o e n (by simp)) (λb o _ e=>u.there b o e (by simp)) u.Jm u.IS u.Ii (λj hm=>by
  rintro⟨o',d,f,a,r'⟩:hm;rw[g]at a;cases a
  exact#[_,d,f,i,r']) Aj I.bare
theorem Inv.call(I:∅)(u:Un (Lp X.stack) ch H H' s.heap h')(Aj:DD X.prog X.w H' h')(l:AllBare g')
 (f:∀b∈ch,(b∈X.ex\/X.s₀.heap.objs.size<=b)/\b≠X.env.locals/\(∀x c,X.env.cells.lookup x=some c->c≠b)/\∀p∈X.pn++p0,p.1≠b):
 Inv X p0 Y H' {s with heap:=h',gens:=g',drawn:=d',toks:=t'}:=by
 rintro⟨m,⟨o,es,ep,k,r⟩,_⟩:id I.loc;rintro⟨sl,g⟩:u.any k I.free λz=>(f _ z).2.1 rfl
 exact I.step (ch:=ch) f (λb o g q a e n=>u.keep b o e n (λz=>(mem_cons.mp (I.Gh b z)).elim g q) a) (λb o _ _ a e n=>u.any e n a) (λb o a e n=>u.free b o e n a) (λb o a e=>u.there b o e a) u.Jm u.IS u.Ii (λt hm=>by
  rintro⟨o',i,j,d,r'⟩:hm;rw[k]at d;cases d
  exact#[_,i,j,g,r']) Aj l
variable{it:Addr}
theorem Inv.turned(I:∅)(k:∀b o,b≠it->s.heap.get? b=some o->h'.get? b=some o)(i:H it=none)(f:it≠X.env.locals)
 (h1:it∈X.ex\/X.s₀.heap.objs.size<=it)(h2:∀x c,X.env.cells.lookup x=some c->c≠it)(l:∀p∈X.pn++p0,p.1≠it):Inv X p0 Y H {s with heap:=h',toks:=t'}:=by
 have d:∀b u,H b=some u->b≠it:=λb u e z=>by rw[z,i]at e;cases e
 refine I.step (g':=s.gens) (d':=s.drawn) (ch:=[it]) (λb j=>?_) (λb o _ _ a e _=>k b o (λz=>a (by simp[z])) e) (λb o _ _ a e _=>#[o.slots,k b o (λz=>a (by simp[z])) e]) (λ_ _ _ _ n=>n)
  (λb o a e=>#[o,k b o (λz=>a (by simp[z])) e]) (λ_ _ e=>e) (λ_ _ _ e=>e) (λb ps e=>#[[].toArray,by rw[e];simp]) (λm hm=>?_) (λb u e=>?_) I.bare
 .have e:b=it:=by simpa using j
  subst e;exact#[h1,f,h2,l]
 .obtain⟨o,es,ep,g,r⟩:=hm;exact#[o,es,ep,k _ o (Ne.symm f) g,r]
 .refine(I.Aj b u e).H9 (λc v a q=>k c v ?_ q) (λ_ q=>q) λ_ _ q=>q
  rcases a with z|z
  .rw[z];exact d b u e
  .exact d c _ z
theorem Inv.tok(I:∅)(t:Nat):Inv X p0 Y H {s with toks:=t}:=I.un (h':=s.heap) (t':=t) Un.refl I.Aj
theorem Inv.kept(I:∅)(k:∀b u,s.heap.get? b=some u->h'.get? b=some u):Inv X p0 Y H {s with heap:=h',toks:=t'}:=I.un (Un.kept k) (I.Aj.kept k)
theorem Inv.laid{a:Addr}(I:∅)(k:∀b u,s.heap.get? b=some u->h'.get? b=some u)(c:s.heap.objs.size<=a)(new:Br X.prog X.w (upd H a o) h' a o):
 Inv X p0 Y (upd H a o) {s with heap:=h',toks:=t'}:=I.un (Un.laid k c (I.Aj.fresh c)) (I.Aj.laid k c new)
theorem Inv.write{e:Addr}(I:∅)(mu:ZX (H x))(he:e=x\/H e=some (.own x))(k:∀b u,b≠e->s.heap.get? b=some u->h'.get? b=some u)(a:∃u,h'.get? e=some u)
 (new:Br X.prog X.w (upd H x o) h' x o):Inv X p0 Y (upd H x o) {s with heap:=h',toks:=t'}:=I.un (Un.write mu he k a) (I.Aj.write mu he k a new)
theorem Inv.D5{pins':Oa}(I:∅)(h:∀p∈pins',s.heap.get? p.1=some p.2/\H p.1=none/\p.1≠X.env.locals/\p.1∉X.fs/\∀v,p.2.data≠.cell v):Inv X pins' Y H s:=
 #[I.ok,I.os,I.bare,I.base,I.loc,I.cell,I.free,I.EA,λp a=>(mZ a).elim (λz=>I.pin p (mL z)) (h p),I.Aj,I.len]
variable{j:Nat}
theorem JM{N:List Str}(c:N.Nodup){i:Nat}{x:Str}(a:N[i]? =some x)(b:N[j]? =some x):i=j:=by
 rintro⟨h1,e1⟩:List.getElem?_eq_some_iff.mp a;rintro⟨h2,e2⟩:List.getElem?_eq_some_iff.mp b;exact(List.getElem_inj c).mp (e1.trans e2.symm)
variable{M:Model}
theorem Hs{A:Around}{E:Va}{i:Nat}{x:Str}{Q:Unit->Shared->Prop}(I:∅)(hN:X.N.Nodup)(hi:X.N[i]? =some x)(g:Loc X.env.scope x)(r:RelV v u)
 (h:∀s',Inv X p0 (Y.set i (some v)) H s'->(∃a,Heap.SameBut a s.heap s'.heap/\(a=X.env.locals\/X.env.cells.lookup x=some a))->Q () s')(hf:X.fn x=true\/X.env.scope.names.lookup x=some .local:=by first|exact .inl rfl|exact .inr rfl|assumption):wpAny M A (storeName X.env x u) Q E s:=by
 rintro⟨m,W,hl⟩:id I.loc;have K:(X.env.scope.kind == .class || (X.env.scope.kind == .module && X.env.locals != X.env.globals))=false:=by rw[I.ok.kind];rfl
 have J:i < Y.length:=by rw[I.len];exact(List.getElem?_eq_some_iff.mp hi).1
 have US:=I.US
 have tracked:∀{a:Addr} {h':Heap},(∃o,s.heap.get? a=some o/\H a=none)->Heap.SameBut a s.heap h'->DD X.prog X.w H h':=λ{a h'} ha hs b ob e=>by
  rintro⟨_,_,l⟩:ha;refine(I.Aj b ob e).H9 (λc P f q=>(hs.2 c ?_).trans q) (λ_ q=>q) λ_ _ q=>q
  rintro rfl
  rcases f with rfl|f
  .rw[l]at e;cases e
  .rw[l]at f;cases f
 rcases g with t|t
 .refine wpAny_storeName_local t W (λh' U hs=>?_) K;rintro⟨oL,_,_,T,_⟩:id W;refine h _ #[I.ok,I.os,I.bare,#[λb o e n D g=>?_,λb o e n D g=>?_,I.base.free,λb o e g=>?_,I.base.Jm,I.base.IS,I.base.Ii],#[_,U,λj y R e1 e2 Z=>?_],λy c e=>?_,I.free,I.EA,λp S=>?_,tracked #[oL,T,I.free] hs,by simpa using I.len] #[_,hs,.inl rfl]
  .exact(hs.2 b (Nat.ne_of_lt (Nat.lt_of_lt_of_le (hZ e) I.ok.above))).trans (I.base.keep b o e n D g)
  .obtain⟨sl,e1⟩:=I.base.slot b o e n D g;exact#[sl,(hs.2 b (Nat.ne_of_lt (Nat.lt_of_lt_of_le (hZ e) I.ok.above))).trans e1]
  .obtain⟨o',e1⟩:=I.base.there b o e g;exact#[o',(hs.2 b (Nat.ne_of_lt (Nat.lt_of_lt_of_le (hZ e) I.ok.above))).trans e1]
  .by_cases B:j=i
   .subst B;rw[hi]at e1;cases e1;rw[List.getElem?_set_self J]at e2;cases e2;exact#[u,r,.inl #[t,by simp]]
   .rw[List.getElem?_set_ne (Ne.symm B)]at e2;rintro⟨u',r',q⟩:hl j y R e1 e2 Z;refine#[u',r',?_];rcases q with⟨k,e⟩|⟨k,c,e,z⟩
    .refine .inl #[k,?_];have:y≠x:=λe=>B (JM hN e1 (e▸hi))
     simp[this,e]
    .exact .inr #[k,c,e,z.sameBut hs (US y c e)]
  .obtain⟨P,z⟩:=I.cell y c e;exact#[P,z.sameBut hs (US y c e)]
  .obtain⟨e,n,ne,nf,d⟩:=I.pin p S;exact#[(hs.2 p.1 ne).trans e,n,ne,nf,d]
 .have C:X.fn x=true:=by
   rcases hf with z|z
   .exact z
   .rw[z]at t;cases t
  rintro⟨c,f⟩:I.ok.has x (.inl t);rintro⟨P,z⟩:I.cell x c f;refine wpAny_storeName_cell I.ok.kind t f z (λh' O hs=>?_);rintro⟨oc,G,F⟩:id z;refine h {s with heap:=h'} #[I.ok,I.os,I.bare,#[λb o e n D g=>?_,λb o e n D g=>?_,I.base.free,λb o e g=>?_,I.base.Jm,I.base.IS,I.base.Ii],#[m,W.sameBut hs (Ne.symm (US x c f)),λj y R e1 e2 Z=>?_],λy c' e=>?_,I.free,I.EA,λp S=>?_,tracked #[oc,G,I.EA x c f] hs,by simpa using I.len] #[c,hs,.inr f]
  .exact(hs.2 b (Nat.ne_of_lt (Nat.lt_of_lt_of_le (hZ e) (I.ok.az x c C f)))).trans (I.base.keep b o e n D g)
  .obtain⟨sl,e1⟩:=I.base.slot b o e n D g;exact#[sl,(hs.2 b (Nat.ne_of_lt (Nat.lt_of_lt_of_le (hZ e) (I.ok.az x c C f)))).trans e1]
  .obtain⟨o',e1⟩:=I.base.there b o e g;exact#[o',(hs.2 b (Nat.ne_of_lt (Nat.lt_of_lt_of_le (hZ e) (I.ok.az x c C f)))).trans e1]
  .by_cases B:j=i
   .subst B;rw[hi]at e1;cases e1;rw[List.getElem?_set_self J]at e2;cases e2;exact#[u,r,.inr #[.inl t,c,f,O]]
   .rw[List.getElem?_set_ne (Ne.symm B)]at e2;rintro⟨u',r',q⟩:hl j y R e1 e2 Z;refine#[u',r',?_];rcases q with q|⟨k,c',e,z'⟩
    .exact .inl q
    .refine .inr #[k,c',e,z'.sameBut hs ?_]
     rintro rfl
     exact B (JM hN e1 (I.ok.inj _ _ _ e f▸hi))
  .by_cases L:c'=c
   .subst L;exact#[_,O]
   .obtain⟨w2,z2⟩:=I.cell y c' e;exact#[w2,z2.sameBut hs L]
  .obtain⟨e,n,ne,nf,d⟩:=I.pin p S;refine#[(hs.2 p.1 ?_).trans e,n,ne,nf,d];intro q;rw[q,G]at e;have q':oc=p.2:=Option.some.inj e;exact d P (by rw[<-q'];exact F)
theorem Jx{A:Around}{E:Va}{i:Nat}{x:Str}{Q:Unit->Shared->Prop}(I:∅)(b:X.N.Nodup)(hi:X.N[i]? =some x)(a:Loc X.env.scope x)(r:RelV v u)
 (h:∀s',Inv X p0 (Y.set i (some v)) H s'->Q () s')(hf:X.fn x=true\/X.env.scope.names.lookup x=some .local:=by first|exact .inl rfl|exact .inr rfl|assumption):wpAny M A (storeName X.env x u) Q E s:=
 Hs I b hi a r (λs' c _=>h s' c) hf
theorem Inv.ZO{s':Shared}(I:∅)(d:s'.os=s.os)(u:Un (Lp X.stack) ch H H' s.heap s'.heap)(Aj:DD X.prog X.w H' s'.heap)(f:AllBare s'.gens)
 (a:∀b∈ch,(b∈X.ex\/X.s₀.heap.objs.size<=b)/\b≠X.env.locals/\(∀x c,X.env.cells.lookup x=some c->c≠b)/\∀p∈X.pn++p0,p.1≠b):Inv X p0 Y H' s':=by
 rintro⟨h',g',d',t',o'⟩:s';have e:o'=s.os:=d;subst e;exact I.call (g':=g') (t':=t') (d':=d') u Aj f a
abbrev XK:=Value->V->Hp->Prop
abbrev St:=List (Option V)
abbrev VK:=V->Hp->Prop
abbrev TE:=St->Hp->VK->Prop
abbrev TT:=St->Hp->(Bool->Hp->Prop)->Prop
abbrev TA:=St->Hp->(List V->Hp->Prop)->Prop
structure Ends where
 nx:St->Hp->Prop
 rt:VK
 bk:St->Hp->Prop:=λ_ _=>False
 ct:St->Hp->Prop:=λ_ _=>False
abbrev TS:=Ends->St->Hp->Prop
def EP(X:Cx)(p0:Oa)(Y:St)(Q:VK)(u:Value)(s':Shared):Prop:=∃v H',Inv X p0 Y H' s'/\RelV v u/\Q v H'
def TP(X:Cx)(p0:Oa)(Y:St)(Q:Bool->Hp->Prop)(b:Bool)(s':Shared):Prop:=∃H',Inv X p0 Y H' s'/\Q b H'
def AP(X:Cx)(p0:Oa)(Y:St)(Q:List V->Hp->Prop)(us:List Value)(s':Shared):Prop:=∃vs H',Inv X p0 Y H' s'/\Vals vs us/\Q vs H'
def SP(X:Cx)(p0:Oa)(D:Ends)(f:Flow)(s':Shared):Prop:=
 match f with
 |.next=>∃Y' H',Inv X p0 Y' H' s'/\D.nx Y' H'
 |.brk=>∃Y' H',Inv X p0 Y' H' s'/\D.bk Y' H'
 |.cont=>∃Y' H',Inv X p0 Y' H' s'/\D.ct Y' H'
 |.ret u=>∃v Y' H',Inv X p0 Y' H' s'/\RelV v u/\D.rt v H'
def PE(X:Cx)(e:Expr)(t:TE):Prop:=
 ∀(p0:Oa) (s:Shared) (Y:St) (H:Hp) (Q:VK),∅->t Y H Q->(X|||(eval e X.env)) (EP X p0 Y Q) X.xe s
def PT(X:Cx)(e:Expr)(t:TT):Prop:=
 ∀(p0:Oa) (s:Shared) (Y:St) (H:Hp) (Q:Bool->Hp->Prop),∅->t Y H Q->(X|||(isTrue e X.env (eval e X.env))) (TP X p0 Y Q) X.xe s
def PW(X:Cx)(e:Expr)(t:TT):Prop:=
 ∀(whole:Sem Value) (p0:Oa) (s:Shared) (Y:St) (H:Hp) (Q:Bool->Hp->Prop),∅->t Y H Q->(X|||(isTrue e X.env whole)) (TP X p0 Y Q) X.xe s
variable{X:Cx}
theorem PW.pt{t:TT}(h:PW X e t):PT X e t:=h _
def PA(X:Cx)(es:List Expr)(t:TA):Prop:=
 ∀(pos:Pos) (p0:Oa) (s:Shared) (Y:St) (H:Hp) (Q:List V->Hp->Prop),∅->t Y H Q->(X|||(spliced (backTo pos (starEach es X.env)))) (AP X p0 Y Q) X.xe s
def PS(X:Cx)(st:Stmt)(t:TS):Prop:=
 ∀(p0:Oa) (s:Shared) (Y:St) (H:Hp) (D:Ends),∅->t D Y H->(X|||(exec st X.env)) (SP X p0 D) X.xe s
def NO(X:Cx)(st:List Stmt)(t:TS):Prop:=
 ∀(p0:Oa) (s:Shared) (Y:St) (H:Hp) (D:Ends),∅->t D Y H->(X|||(execs st X.env)) (SP X p0 D) X.xe s
variable{s:Shared}
theorem AS{α:Type}{t:Sem α}{Q Q':α->Shared->Prop}{A:Around}{E:Va}(h:wpAny M A t Q E s)(b:∀a s,Q a s->Q' a s):wpAny M A t Q' E s:=wpAny_mono h b λ_ _ x=>x
section
variable{p0:Oa}{s:Shared}{H:Hp}
theorem bin{ta tb:TE}(m:PE X a ta)(l:PE X b tb){Y:St}{R:V->V->Hp->Prop}(I:∅)(h:ta Y H λx H1=>tb Y H1 λy H2=>R x y H2)
 {α:Type}{Q:α->Shared->Prop}{f:Value->Value->Sem α}
 (hf:∀v u s2 x y H2,Inv X p0 Y H2 s2->RelV x v->RelV y u->R x y H2->(X|||(f v u)) Q X.xe s2):
 (X|||(eval a X.env)) (λv d=>(X|||(eval b X.env)) (λu c=>(X|||(f v u)) Q X.xe c) X.xe d) X.xe s:=by
 refine AS (m p0 s Y H _ I h) λv s1 ⟨x,H1,o,g,k⟩=>?_
 refine AS (l p0 s1 Y H1 _ o k) λu s2 ⟨y,H2,n,e,i⟩=>?_
 exact hf v u s2 x y H2 n g e i
def ES(i:Nat):TE:=λY H Q=>∃v,Y[i]? =some (some v)/\Q v H
def tC(v:V):TE:=λ_ H Q=>Q v H
variable{pos:Pos}
theorem OS{i:Nat}{x:Str}(n:X.N[i]? =some x)(g:aB X.env.scope x)(hd:ng x:=by decide)(d:(x == ("__classdict__":Str))=false:=by decide):PE X (.Name x pos) (ES i):=by
 intro p0 s Y H Q I h;rintro⟨v,e,h⟩:h;rintro⟨m,k,hl⟩:I.loc;rintro⟨u,r,l⟩:hl i x v n e g;have fin:EP X p0 Y Q u s:=#[v,H,I,r,h];rcases l with⟨b,hm⟩|⟨b,c,f,a⟩
 .exact wpAny_Name (wpAny_loadName_local I.ok.kind b k hm fin) hd
 .rcases b with b|b
  .exact wpAny_Name (wpAny_loadName_cell I.ok.kind b f a fin) hd
  .exact wpAny_Name (wpAny_loadName_free I.ok.kind b f a fin d) hd
theorem VZ{i j pos}:PE X (.Constant (.int i) j pos) (tC (.int i)):=λ_ _ _ H _ I h=>wpAny_Constant_int #[.int i,H,I.tok _,#[_,rfl],h]
theorem Z1{b j pos}:PE X (.Constant (.bool b) j pos) (tC (.bl b)):=λ_ _ _ H _ I h=>Constant_bool #[.bl b,H,I,rfl,h]
theorem VX{j pos}:PE X (.Constant .none j pos) (tC .AG):=λ_ _ _ H _ I h=>Constant_none #[.AG,H,I,rfl,h]
theorem VV{x j pos}:PE X (.Constant (.str x) j pos) (tC (.str x)):=λ_ _ _ H _ I h=>Calls.Constant_str #[.str x,H,I.tok _,#[_,rfl],h]
def Gl(X:Cx)(x:Str):Prop:=X.env.kindOf x=some .globalImplicit
theorem G3{E:Va}{Y:St}{u:Value}{Q:Va}(I:∅)(a:Gl X x)(hm:X.mg x=some u)(h:Q u s)
 (hd:ng x:=by decide):(X|||(eval (.Name x pos) X.env)) Q E s:=
 Calls.Name_function_global I.ok.kind a (Calls.loadGlobal_global (by rw[I.ok.glob];exact I.mod.glob.keeps I.bk) hm h) hd
theorem CJ{E:Va}{Y:St}{u:Value}{Q:Va}(I:∅)(c:Gl X x)(hm:X.mg x=none)(a:bootBuiltins x=some u)(h:Q u s)
 (b:x≠"__name__":=by decide)(hd:ng x:=by decide):(X|||(eval (.Name x pos) X.env)) Q E s:=by
 rintro⟨d,h1,h2⟩:I.mod.blt;exact Calls.Name_function_global I.ok.kind c (Calls.loadGlobal_builtin (by rw[I.ok.glob];exact I.mod.glob.keeps I.bk) hm (by rw[I.ok.blt];exact h1.keeps I.bk) ((h2 x b).trans a) h) hd
theorem Mf{u:Value}(a:Gl X x)(hm:X.mg x=some u)(r:RelV v u)(hd:ng x:=by decide):PE X (.Name x pos) (tC v):=
 λ_ _ _ H _ I h=>G3 I a hm #[v,H,I,r,h] hd
theorem S7{u:Value}(c:Gl X x)(hm:X.mg x=none)(a:bootBuiltins x=some u)(r:RelV v u)(b:x≠"__name__":=by decide)(hd:ng x:=by decide):PE X (.Name x pos) (tC v):=
 λ_ _ _ H _ I h=>CJ I c hm a #[v,H,I,r,h] b hd
variable{a b:Expr}{ta tb:TE}{pos:Pos}
variable{tA tB':TT}{rest:List Expr}
def YF(t u:TT):TT:=λY H Q=>t Y H λc H1=>if c=true then u Y H1 Q else Q false H1
def cU(t u:TT):TT:=λY H Q=>t Y H λc H1=>if c=true then Q true H1 else u Y H1 Q
def YC(t:TT):TT:=λY H Q=>t Y H λc H1=>Q (!c) H1
theorem RS(d:PT X a tA):PW X (.BoolOp .And [a] pos) tA:=by
 intro f p0 s Y H Q I h;refine isTrue_and (AS (d p0 s Y H Q I h) λc s1 e=>?_);cases c with
 |true=>exact isTrue_and_nil e
 |false=>exact e
theorem VO(d:PT X a tA):PW X (.BoolOp .Or [a] pos) tA:=by
 intro f p0 s Y H Q I h;refine isTrue_or (AS (d p0 s Y H Q I h) λc s1 e=>?_);cases c with
 |false=>exact isTrue_or_nil e
 |true=>exact e
theorem VP(i:PT X a tA)(g:PW X (.BoolOp .And (b::rest) pos) tB'):PW X (.BoolOp .And (a::b::rest) pos) (YF tA tB'):=by
 intro f p0 s Y H Q I h;refine isTrue_and (AS (i p0 s Y H _ I h) λc s1 ⟨H1,e,d⟩=>?_);cases c with
 |true=>exact g f p0 s1 Y H1 Q e d
 |false=>exact#[H1,e,d]
theorem YV(i:PT X a tA)(g:PW X (.BoolOp .Or (b::rest) pos) tB'):PW X (.BoolOp .Or (a::b::rest) pos) (cU tA tB'):=by
 intro f p0 s Y H Q I h;refine isTrue_or (AS (i p0 s Y H _ I h) λc s1 ⟨H1,e,d⟩=>?_);cases c with
 |true=>exact#[H1,e,d]
 |false=>exact g f p0 s1 Y H1 Q e d
theorem VQ(d:PT X a tA):PT X (.UnaryOp .Not a pos) (YC tA):=by
 intro p0 s Y H Q I h;exact isTrue_not (d p0 s Y H (λc H1=>Q (!c) H1) I h)
def Ug(ta tb:TE):TE:=λY H Q=>ta Y H λx H1=>∃c,x= .bl c/\if c=true then tb Y H1 Q else Q (.bl false) H1
def YB(ta tb:TE):TE:=λY H Q=>ta Y H λx H1=>∃c,x= .bl c/\if c=true then Q (.bl true) H1 else tb Y H1 Q
def Uc(ta:TE):TE:=λY H Q=>ta Y H λx H1=>∃c,x= .bl c/\Q (.bl (!c)) H1
theorem OT{op}{t:TE}(h:PE X a t):PE X (.BoolOp op [a] pos) t:=λp0 s Y H Q I hw=>BoolOp_one (h p0 s Y H Q I hw)
theorem W2(i:PE X a ta)(g:PE X (.BoolOp .And (b::rest) pos) tb):PE X (.BoolOp .And (a::b::rest) pos) (Ug ta tb):=by
 intro p0 s Y H Q I h;refine BoolOp_and (AS (i p0 s Y H _ I h) λv s1 ⟨x,H1,e,f,d⟩=>?_);rintro⟨c,rfl,d⟩:d;cases f;refine wpAny_truthy_bool ?_;cases c with
 |true=>exact g p0 s1 Y H1 Q e d
 |false=>exact#[.bl false,H1,e,rfl,d]
theorem YY(i:PE X a ta)(g:PE X (.BoolOp .Or (b::rest) pos) tb):PE X (.BoolOp .Or (a::b::rest) pos) (YB ta tb):=by
 intro p0 s Y H Q I h;refine BoolOp_or (AS (i p0 s Y H _ I h) λv s1 ⟨x,H1,e,f,d⟩=>?_);rintro⟨c,rfl,d⟩:d;cases f;refine wpAny_truthy_bool ?_;cases c with
 |false=>exact g p0 s1 Y H1 Q e d
 |true=>exact#[.bl true,H1,e,rfl,d]
theorem VW(f:PE X a ta):PE X (.UnaryOp .Not a pos) (Uc ta):=by
 intro p0 s Y H Q I h;refine UnaryOp_ (AS (f p0 s Y H _ I h) λv s1 ⟨x,H1,g,e,d⟩=>?_);rintro⟨c,rfl,d⟩:d;cases e;exact not_of (wpAny_truthy_bool #[.bl (!c),H1,g,rfl,d])
def cW(t:TT)(ta tb:TE):TE:=λY H Q=>t Y H λc H1=>if c=true then ta Y H1 Q else tb Y H1 Q
theorem OU(g:PT X c tA)(k:PE X a ta)(i:PE X b tb):PE X (.IfExp c a b pos) (cW tA ta tb):=by
 intro p0 s Y H Q I h;refine wpAny_IfExp (AS (g p0 s Y H _ I h) λd s1 ⟨H1,f,e⟩=>?_);cases d with
 |true=>exact k p0 s1 Y H1 Q f e
 |false=>exact i p0 s1 Y H1 Q f e
end
def DP(K:Frag)(H:Hp)(a:Addr)(xs:List V):Prop:=
 Rd H a (.lst xs)\/
  ∃(o:Obj) (its:Array Value) (n:Nat),K.lookup a=some o/\o.cls= .type "list"/\o.dict=none/\o.data= .seq its n/\its.size<=sizeLine/\Vals xs its.toList
def D2(K:Frag)(H:Hp)(a:Addr)(xs:List V):Prop:=
 Rd H a (.tup xs)\/
  ∃(o:Obj) (its:Array Value) (n:Nat),K.lookup a=some o/\o.cls= .type "tuple"/\o.data= .seq its n/\its.size<=sizeLine/\Vals xs its.toList
def cy:Value->Option V
 |.none=>some .AG
 |.bool b=>some (.bl b)
 |.int i _=>some (.int i)
 |.str x _=>some (.str x)
 |.bytes b _=>some (.XT b)
 |.float b _=>some (.ao b)
 |.ref a=>some (.ref a)
 |.type n=>some (.ty n)
 |_=>none
theorem RelV.abs(r:RelV x u):cy u=some x:=by
 cases x with
 |AG=>cases r;rfl
 |bl _=>cases r;rfl
 |int _=>rintro⟨t,rfl⟩:r;rfl
 |str _=>rintro⟨t,rfl⟩:r;rfl
 |XT _=>rintro⟨t,rfl⟩:r;rfl
 |ao _=>rintro⟨t,rfl⟩:r;rfl
 |ref _=>cases r;rfl
 |ty _=>cases r;rfl
theorem RelV.inj(r:RelV x u)(q:RelV y u):x=y:=Option.some.inj (r.abs.symm.trans q.abs)
theorem Vals.inj:∀{xs ys:List V} {us:List Value},Vals xs us->Vals ys us->xs=ys
 |_,_,_,.nil,.nil=>rfl
 |_,_,_,.cons r t,.cons r' t'=>by rw[r.inj r',Vals.inj t t']
section
variable{Y:St}{a:Addr}{xs ys:List V}
theorem DP.of{K:Frag}(h:H a=some (.lst xs)):DP K H a xs:=.inl (.inl h)
theorem D2.of{K:Frag}(h:H a=some (.tup xs)):D2 K H a xs:=.inl (.inl h)
theorem Inv.list(I:∅)(h:DP X.K H a xs):∃its:List Value,Vals xs its/\PlainL s.heap a its.toArray/\xs.length<=sizeLine:=by
 rcases h with h|⟨o,its,n,b,c,hd,hs,hz,r⟩
 .obtain⟨z,its,n,r,e⟩:=h.ok I.Aj;exact#[its,r,#[_,n,e,rfl,rfl,rfl],z]
 .refine#[its.toList,r,#[o,n,I.GC a o b,c,hd,by simpa using hs],?_];have e:=r.length;simp only[Array.length_toList]at e
  lia
theorem Inv.tuple(I:∅)(h:D2 X.K H a xs):∃its:List Value,Vals xs its/\IsTup s.heap a its.toArray/\xs.length<=sizeLine:=by
 rcases h with h|⟨o,its,n,b,c,hs,hz,r⟩
 .obtain⟨z,its,r,p⟩:=h.ok I.Aj;exact#[its,r,p,z]
 .refine#[its.toList,r,#[o,I.GC a o b,c,n,by simpa using hs],?_];have e:=r.length;simp only[Array.length_toList]at e
  lia
theorem Inv.JT(I:∅)(h:DP X.K H a xs)(h':DP X.K H a ys):xs=ys:=by
 rintro⟨its,r,⟨o,n,e,_,_,d⟩,_⟩:I.list h;rintro⟨its',r',⟨o',c,b,_,_,d'⟩,_⟩:I.list h';rw[e]at b;cases b;rw[d]at d';injection d' with d1 _
 have:its=its':=by simpa using congrArg Array.toList d1
 subst this;exact r.inj r'
theorem Inv.EO(I:∅)(h:D2 X.K H a xs)(h':D2 X.K H a ys):xs=ys:=by
 rintro⟨its,r,⟨o,e,_,n,d⟩,_⟩:I.tuple h;rintro⟨its',r',⟨o',b,_,c,d'⟩,_⟩:I.tuple h';rw[e]at b;cases b;rw[d]at d';injection d' with d1 _
 have:its=its':=by simpa using congrArg Array.toList d1
 subst this;exact r.inj r'
end
section
variable{st:Stmt}{rest:List Stmt}{t u:TS}{e:Expr}{te:TE}{pos:Pos}
def Ud:TS:=λD Y H=>D.nx Y H
def YA(t u:TS):TS:=λD Y H=>t {D with nx:=u D} Y H
theorem RU:NO X [] Ud:=λ_ _ Y H _ I h=>wpAny_execs_nil #[Y,H,I,h]
theorem OH(h1:PS X st t)(h2:NO X rest u):NO X (st::rest) (YA t u):=by
 intro p0 s Y H D I h;refine wpAny_execs_cons (AS (h1 p0 s Y H {D with nx:=u D} I h) λf s1 q=>?_);cases f with
 |next=>
   rintro⟨Y',H',a,q⟩:q;exact h2 p0 s1 Y' H' D a q
 |ret v=>exact q
 |brk=>exact q
 |cont=>exact q
theorem Inv.quiet{p0:Oa}{Y:St}{H:Hp}{s:Shared}(I:∅):interactive X.env=false:=by simp[interactive,I.ok.kind]
def Js(te:TE):TS:=λD Y H=>te Y H λ_ H1=>D.nx Y H1
theorem El(he:PE X e te)(hs:swapsWith e none pos.line X.env=pure false:=by rfl):PS X (.Expr e pos) (Js te):=by
 intro p0 s Y H D I h;exact wpAny_Expr_any (AS (he p0 s Y H _ I h) λv s1 ⟨x,H1,b,c,a⟩=>#[Y,H1,b,a]) I.quiet hs
def Vh(te:TE):TS:=λD Y H=>te Y H D.rt
theorem OJ(he:PE X e te):PS X (.Return (some e) pos) (Vh te):=by
 intro p0 s Y H D I h;exact wpAny_Return_some (AS (he p0 s Y H _ I h) λv s1 ⟨x,H1,c,a,b⟩=>#[x,Y,H1,c,a,b])
def Ub:TS:=λD _ H=>D.rt .AG H
theorem RW:PS X (.Return none pos) Ub:=λ_ _ Y H _ I h=>wpAny_Return_none #[.AG,Y,H,I,rfl,h]
def YE(c:TT)(t u:TS):TS:=λD Y H=>c Y H λb H1=>if b=true then t D Y H1 else u D Y H1
theorem YW{a b:List Stmt}{tc:TT}(i:PT X c tc)(l:NO X a t)(k:NO X b u):PS X (.If c a b pos) (YE tc t u):=by
 intro p0 s Y H D I h;refine wpAny_If (AS (i p0 s Y H _ I h) λd s1 ⟨H1,g,f⟩=>?_);cases d with
 |true=>exact l p0 s1 Y H1 D g f
 |false=>exact k p0 s1 Y H1 D g f
end
abbrev TG:=V->St->Hp->(St->Hp->Prop)->Prop
abbrev QX:=List V->St->Hp->(St->Hp->Prop)->Prop
def PG(X:Cx)(target:Expr)(t:TG):Prop:=
 ∀ (p0:Oa) (s:Shared) (Y:St) (H:Hp) (v:V) (u:Value) (Q:St->Hp->Prop),∅->RelV v u->t v Y H Q->
   (X|||(assign target X.env u)) (λ_ s'=>∃Y' H',Inv X p0 Y' H' s'/\Q Y' H') X.xe s
def XX(X:Cx)(ts:List Expr)(t:QX):Prop:=
 ∀ (p0:Oa) (s:Shared) (Y:St) (H:Hp) (vs:List V) (us:List Value) (Q:St->Hp->Prop),∅->Vals vs us->t vs Y H Q->
   (X|||(assignInOrder ((assignEach ts X.env).map (·.2)) us)) (λ_ s'=>∃Y' H',Inv X p0 Y' H' s'/\Q Y' H') X.xe s
abbrev QN:=V->V->V->Hp->(Hp->Prop)->Prop
def TV(X:Cx)(t:QN):Prop:=
 ∀ (p0:Oa) (s:Shared) (Y:St) (H:Hp) (o i v:V) (ov iv u:Value) (Q:Hp->Prop),∅->RelV o ov->RelV i iv->RelV v u->t o i v H Q->
   (X|||(setItem ov iv u)) (λ_ s'=>∃H',Inv X p0 Y H' s'/\Q H') X.xe s
variable{pos:Pos}
def Ez(i:Nat):TG:=λv Y H Q=>Q (Y.set i (some v)) H
theorem Me{i:Nat}{x:Str}(b:X.N.Nodup)(hi:X.N[i]? =some x)(a:Loc X.env.scope x)(hf:X.fn x=true\/X.env.scope.names.lookup x=some .local:=by first|exact .inl rfl|exact .inr rfl|assumption):PG X (.Name x pos) (Ez i):=by
 intro p0 s Y H v u Q I r h;exact wpAny_assign_Name (Jx I b hi a r (λs' c=>#[_,H,c,h]) hf)
def ZH:QX:=λvs Y H Q=>vs=[]/\Q Y H
def UK(t:TG)(u:QX):QX:=λvs Y H Q=>∃v r,vs=v::r/\t v Y H λY' H'=>u r Y' H' Q
theorem S5:XX X [] ZH:=by
 intro p0 s Y H vs us Q I r h;rintro⟨e,h⟩:h;subst e;cases r;exact assignInOrder_nil #[Y,H,I,h]
theorem OO{es:List Expr}{t:TG}{u:QX}(h1:PG X e t)(h2:XX X es u)
 (hs:(assignEach (e::es) X.env).map (·.2)=assign e X.env::(assignEach es X.env).map (·.2):=by rfl):XX X (e::es) (UK t u):=by
 intro p0 s Y H vs us Q I r h;rintro⟨v,f,e1,h⟩:h;subst e1;cases r with
 |cons r a=>
   rw[hs];refine assignInOrder_cons (AS (h1 p0 s Y H _ _ _ I r h) λ_ s1 ⟨c,H1,d,b⟩=>?_);exact h2 p0 s1 c H1 _ _ Q d a b
def X5(K:Frag)(n:Nat)(t:QX):TG:=λv Y H Q=>∃a xs,v= .ref a/\D2 K H a xs/\xs.length=n/\t xs Y H Q
theorem OP{es:List Expr}{k:Nat}{t:QX}{n:Nat}(l:X.calm=true)(h:XX X es t)
 (i:(assignEach es X.env).length=n:=by rfl)(c:(assignEach es X.env).findIdx? (·.1)=none:=by rfl):PG X (.Tuple es k pos) (X5 X.K n t):=by
 intro p0 s Y H v u Q I r hw;rintro⟨a,xs,e1,hq,hl,hw⟩:hw;subst e1;cases r;rintro⟨its,d,g,hz⟩:I.tuple hq;refine assign_Tuple_tuple (I.ok.hd l) g (by simp[i,<-hl,d.length]) c λh' f=>?_
 have m:Inv X p0 Y H {s with heap:=h'}:=I.kept (t':=s.toks) λb o e=>f b o (Nat.ne_of_lt (hZ e)) e
 exact h p0 _ Y H xs _ Q m (by simpa using d) hw
def ZF(to ti:TE)(t:QN):TG:=λv Y H Q=>to Y H λo H1=>ti Y H1 λi H2=>t o i v H2 λH3=>Q Y H3
theorem OQ{to ti:TE}{t:QN}(k:PE X o to)(hi:PE X i ti)(hs:TV X t)
 (l:∀v,assign (.Subscript o i pos) X.env v=(do
  let a <-holding [v] (eval o X.env)
  let b <-holding [v,a] (eval i X.env)
  standAt pos
  holding [v,a,b] (setItem a b v)
  release [v,a,b] []):=by intro _;rfl):PG X (.Subscript o i pos) (ZF to ti t):=by
 intro p0 s Y H v u Q I r h;rw[l];refine wB (wpAny_holding (AS (k p0 s Y H _ I h) λa s1 ⟨x,H1,p,d,g⟩=>?_));refine wB (wpAny_holding (AS (hi p0 s1 Y H1 _ p g) λb s2 ⟨y,H2,n,c,f⟩=>?_));refine wB (wpAny_standAt (wB (wpAny_holding (AS (hs p0 s2 Y H2 x y v a b u _ n d c r f) λ_ s3 ⟨q,m,e⟩=>?_))));exact wpAny_release #[Y,q,m,e]
def Ju(te:TE)(g:TG):TS:=λD Y H=>te Y H λx H1=>g x Y H1 D.nx
variable{te:TE}
theorem KO{tg:Expr}{g:TG}(he:PE X e te)(c:PG X tg g)(hs:swapsWithSole [tg] e pos.line X.env=pure false:=by rfl)(hw:swappedStores [tg] e X.env=pure none:=by rfl)
 (h1:(assignEach [tg] X.env).map (·.2)=[assign tg X.env]:=by rfl):PS X (.Assign [tg] e pos) (Ju te g):=by
 intro p0 s Y H D I h;refine wpAny_Assign_stores (AS (he p0 s Y H _ I h) λv s1 ⟨x,H1,d,a,b⟩=>?_) hs hw;rw[h1];exact AS (c p0 s1 Y H1 x v _ d a b) λ_ s2 q=>q
theorem KN{i:Nat}{x:Str}{pos':Pos}(d:X.N.Nodup)(hi:X.N[i]? =some x)(c:Loc X.env.scope x)(he:PE X e te)(hs:swapsWith e (some (.Name x pos')) pos.line X.env=pure false:=by rfl)(hf:X.fn x=true\/X.env.scope.names.lookup x=some .local:=by first|exact .inl rfl|exact .inr rfl|assumption):
 PS X (.Assign [.Name x pos'] e pos) (Ju te (Ez i)):=by
 intro p0 s Y H D I h;refine wpAny_Assign_Name (AS (he p0 s Y H _ I h) λv s1 ⟨y,H1,g,a,b⟩=>?_) hs;exact Jx g d hi c a (λs2 f=>#[_,H1,f,b]) hf
def O9(c:TT)(tb:TS):TS:=λD Y H=>∃W:Nat->St->Hp->Prop,(∃m,W m Y H)/\∀m Y H,W m Y H->
 c Y H λb H1=>if b=true then ∃N:St->Hp->Prop,(∀Y' H',N Y' H'->∃m',m' < m/\W m' Y' H')/\tb {D with nx:=N,ct:=N,bk:=D.nx} Y H1 else D.nx Y H1
variable{body:List Stmt}
theorem OI{tc:TT}{tb:TS}(o:PassesOwn (model X.prog X.w) X.A X.env X.xe)(u:PT X c tc)(x:NO X body tb):PS X (.While c body [] pos) (O9 tc tb):=by
 intro p0 s Y H D I h;rintro⟨W,⟨m0,t⟩,turn⟩:h;refine wpAny_While (codeAny_whileLoop (λn s'=>∃Y' H',Inv X p0 Y' H' s'/\W n Y' H') ?_ m0 #[Y,H,I,t])
 rintro n s1 ⟨i,H1,y,r⟩
 refine wpAny_passesOwn o (AS (u p0 s1 i H1 _ y (turn n i H1 r)) λb s2 ⟨H2,q,g⟩=>?_);cases b with
 |true=>
   rintro⟨N,p,g⟩:g;rw[iP rfl];refine wpAny_passesOwn o (AS (x p0 s2 i H2 _ q g) λf s3 e=>?_);cases f with
   |next=>
     rintro⟨a,d,m,n3⟩:e;rintro⟨l,hm,k⟩:p a d n3;exact#[l,hm,a,d,m,k]
   |cont=>
     rintro⟨a,d,m,n3⟩:e;rintro⟨l,hm,k⟩:p a d n3;exact#[l,hm,a,d,m,k]
   |brk=>exact e
   |ret v=>exact e
 |false=>
   rw[iN Bool.false_ne_true];exact wpAny_execs_nil #[i,H2,q,g]
structure It where
 go:Nat->Hp->Prop
 LS:Nat->Hp->V->Hp->Prop
 stop:Nat->Hp->Prop
def Fh(X:Cx)(p0:Oa)(H:Hp)(b:Addr):Prop:=
 H b=none/\b≠X.env.locals/\b∉X.fs/\(b∈X.ex\/X.s₀.heap.objs.size<=b)/\(∀x c,X.env.cells.lookup x=some c->c≠b)/\∀p∈X.pn++p0,p.1≠b
theorem Inv.Lq{p0:Oa}{Y:St}{H':Hp}{b:Addr}(I:∅)(a:s.heap.objs.size<=b)(f:H' b=none):Fh X p0 H' b:=by
 refine#[f,Nat.ne_of_gt (Nat.lt_of_lt_of_le I.lt a),I.Wx a,.inr (Nat.le_trans I.sz a),λx c e z=>?_,λp d z=>?_]
 .obtain⟨v,q⟩:=I.cell x c e;exact absurd (Nat.lt_of_lt_of_le q.lt (by rw[z];exact a)) (Nat.lt_irrefl _)
 .exact absurd (Nat.lt_of_lt_of_le (hZ (I.pin p d).1) (by rw[z];exact a)) (Nat.lt_irrefl _)
structure Turn(P:Program)(w:World)(K:Frag)(tg:Expr)(J:It)(fp:List Addr)(it:Addr)(tn:Nat->Heap->Prop):Prop where
 mem:it∈fp
 obj:∀i h,tn i h->∀b∈fp,∃o,h.get? b=some o/\∀v,o.data≠.cell v
 keep:∀i h h',tn i h->(∀b∈fp,∀o,h.get? b=some o->h'.get? b=some o)->tn i h'
 item:∀(X:Cx),X.prog=P->X.w=w->X.K=K->X.calm=true->∀(i:Nat) (p0:Oa) (s:Shared) (Y:St) (H:Hp) (E:Va),∅->(∀b∈fp,Fh X p0 H b)->tn i s.heap->J.go i H->
  wpAny (model P w) X.A (pyNext (.ref it)) (λr s1=>∃u,r=some u/\
   wpAny (model P w) X.A (letOwnedTupleGo tg (.ref it) u) (λ_ s2=>∃x H',Inv X p0 Y H' s2/\RelV x u/\J.LS i H x H'/\tn (i+1) s2.heap/\∀b∈fp,H' b=none) E s1) E s
 done:∀(X:Cx),X.prog=P->X.w=w->X.K=K->X.calm=true->∀(i:Nat) (p0:Oa) (s:Shared) (Y:St) (H:Hp) (E:Va),∅->(∀b∈fp,Fh X p0 H b)->tn i s.heap->J.stop i H->
  wpAny (model P w) X.A (pyNext (.ref it)) (λr s1=>r=none/\Inv X p0 Y H s1) E s
 self:∀(A:Around) (i:Nat) (s:Shared) (Q:Va) (E:Va),tn i s.heap->Q (.ref it) s->wpAny (model P w) A (pyIter (.ref it)) Q E s
abbrev TI:=St->Hp->(It->Hp->Prop)->Prop
def dH(X:Cx)(p0:Oa)(Y:St)(tg:Expr)(R:It->Hp->Prop)(itv:Value)(s2:Shared):Prop:=
 ∃(it:Addr) (fp:List Addr) (tn:Nat->Heap->Prop) (J:It) (H':Hp),itv= .ref it/\Inv X p0 Y H' s2/\Turn X.prog X.w X.K tg J fp it tn/\tn 0 s2.heap/\(∀b∈fp,Fh X p0 H' b)/\R J H'
def PI(X:Cx)(tg iter:Expr)(wi:TI):Prop:=
 ∀ (p0:Oa) (s:Shared) (Y:St) (H:Hp) (R:It->Hp->Prop),∅->wi Y H R->
   (X|||(eval iter X.env)) (λv s1=>(X|||(pyIter v)) (dH X p0 Y tg R) X.xe s1) X.xe s
theorem K4{A:Around}{E:Va}{tg:Expr}{u:Value}{o:Obj}{n:String}{vs:Array Value}{Q:Unit->Shared->Prop}(b:s.heap.get? it=some o)(d:o.cls= .type n)(hd:o.data= .fields vs)
 (c:["enumerate","zip","dict_itemiterator","dict_reverseitemiterator","odict_iterator","itertools.zip_longest","itertools.pairwise"].contains n=false)(a:Q () s):wpAny M A (letOwnedTupleGo tg (.ref it) u) Q E s:=by
 unfold letOwnedTupleGo
 cases tg <;>first
  |exact wpAny_pure a
  |(cases u<;>first
   |exact wpAny_pure a
   | (refine wB (wpAny_load b ?_)
      rw[d,hd];show wpAny M A (if(["enumerate","zip","dict_itemiterator","dict_reverseitemiterator","odict_iterator","itertools.zip_longest","itertools.pairwise"].contains n && vs[0]? == some (rawInt _))=true then _ else _) Q E s;rw[iN (by intro h;rw[c,Bool.false_and]at h;cases h)]
      exact wpAny_pure a))
def fG(K:Frag)(a:Addr):It:=
 #[λi H=>∃xs x,DP K H a xs/\xs[i]? =some x,λi H x H'=>H'=H/\∀xs,DP K H a xs->xs[i]? =some x,λi H=>∃xs,DP K H a xs/\xs.length<=i]
def fF(K:Frag)(a:Addr):It:=
 #[λi H=>∃xs x,D2 K H a xs/\xs[i]? =some x,λi H x H'=>H'=H/\∀xs,D2 K H a xs->xs[i]? =some x,λi H=>∃xs,D2 K H a xs/\xs.length<=i]
def aE(lo:Int)(n:Nat):It:=#[λi _=>i < n,λi H x H'=>H'=H/\x= .int (lo+i),λi _=>n<=i]
theorem MT{P:Program}{w:World}{K:Frag}{tg:Expr}(a it:Addr):Turn P w K tg (fG K a) [it] it (λi h=>h.IsListIter it a i) where
 mem:=by simp
 obj:=λi h st b f=>by
  have e:b=it:=by simpa using f
  subst e;rintro⟨o,e,c,d⟩:st;exact#[o,e,λv z=>by rw[d]at z;cases z]
 keep:=λi h h' st k=>st.at λo e=>k it (by simp) o e
 item:=by
  intro X q hw hK y i p0 s Y H E I hf st n;subst q hw hK;rintro⟨xs,x,hq,m⟩:n;rintro⟨its,l,p,hz⟩:I.list hq;rintro⟨u,D,B⟩:l.get m;rintro⟨f0,f1,f2,t,f4,r⟩:hf it (by simp);refine wpAny_pyNext_list_item st p.isList (x:=u) (by simpa using D) λh' g A=>?_
  have G:Inv X p0 Y H {s with heap:=h'}:=I.turned (t':=s.toks) (λb o f e=>(A.2 b f).trans e) f0 f1 t f4 r;rintro⟨o,e,c,d⟩:id g;exact#[u,rfl,K4 (s:={s with heap:=h'}) e c d (by decide) #[x,H,G,B,#[rfl,λys C=>by rw[I.JT C hq];exact m],g,λb f=>(hf b f).1]]
 done:=by
  intro X q hw hK y i p0 s Y H E I hf st n;subst q hw hK;rintro⟨xs,hq,m⟩:n;rintro⟨its,l,p,hz⟩:I.list hq;rintro⟨f0,f1,f2,t,f4,r⟩:hf it (by simp);have hl:=l.length;exact wpAny_pyNext_list_end (I.ok.hd y) st p.isList (by simp;lia) λh' F=>#[rfl,I.turned (t':=s.toks) (λb o f e=>F b o f e) f0 f1 t f4 r]
 self:=λ_ _ _ _ _ st h=>wpAny_pyIter_listiter st h
theorem Kx{P:Program}{w:World}{K:Frag}{tg:Expr}(a it:Addr):Turn P w K tg (fF K a) [it] it (λi h=>h.IsTupleIter it a i) where
 mem:=by simp
 obj:=λi h st b f=>by
  have e:b=it:=by simpa using f
  subst e;rintro⟨o,e,c,d⟩:st;exact#[o,e,λv z=>by rw[d]at z;cases z]
 keep:=λi h h' st k=>st.at λo e=>k it (by simp) o e
 item:=by
  intro X q hw hK y i p0 s Y H E I hf st n;subst q hw hK;rintro⟨xs,x,hq,m⟩:n;rintro⟨its,l,p,hz⟩:I.tuple hq;rintro⟨u,D,B⟩:l.get m;rintro⟨f0,f1,f2,t,f4,r⟩:hf it (by simp);refine wpAny_pyNext_tuple_item st (show s.heap.IsTuple a its.toArray from p) (x:=u) (by simpa using D) λh' g A=>?_
  have G:Inv X p0 Y H {s with heap:=h'}:=I.turned (t':=s.toks) (λb o f e=>(A.2 b f).trans e) f0 f1 t f4 r;rintro⟨o,e,c,d⟩:id g;exact#[u,rfl,K4 (s:={s with heap:=h'}) e c d (by decide) #[x,H,G,B,#[rfl,λys C=>by rw[I.EO C hq];exact m],g,λb f=>(hf b f).1]]
 done:=by
  intro X q hw hK y i p0 s Y H E I hf st n;subst q hw hK;rintro⟨xs,hq,m⟩:n;rintro⟨its,l,p,hz⟩:I.tuple hq;rintro⟨f0,f1,f2,t,f4,r⟩:hf it (by simp);have hl:=l.length;exact wpAny_pyNext_tuple_end (I.ok.hd y) st (show s.heap.IsTuple a its.toArray from p) (by simp;lia) λh' F=>#[rfl,I.turned (t':=s.toks) (λb o f e=>F b o f e) f0 f1 t f4 r]
 self:=λ_ _ _ _ _ st h=>wpAny_pyIter_tupleiter st h
theorem Ky{P:Program}{w:World}{K:Frag}{tg:Expr}(it:Addr)(lo:Int)(n:Nat):Turn P w K tg (aE lo n) [it] it (λi h=>IsRangeIter h it (lo + (i:Nat) * 1) ((n:Int) - (i:Nat)) 1) where
 mem:=by simp
 obj :=λi h st b a=>by
  have e:b=it:=by simpa using a
  subst e
  exact⟨_,st,λv z=>by
   have p:Data.fields _=Data.cell v:=z
   cases p⟩
 keep:=λi h h' st k=>k it (by simp) _ st
 item:=by
  intro X g hw hK f i p0 s Y H E I hf st d;subst g hw hK;rintro⟨f0,f1,f2,m,f4,l⟩:hf it (by simp);have W:=Walks.range (prog:=X.prog) (w:=X.w) (I.ok.hd f) it lo 1 n;refine W.item i s _ _ d st λv h' tk q c kk=>?_
  rintro⟨t,rfl⟩:q;have u:Inv X p0 Y H {s with heap:=h',toks:=tk}:=I.turned (λb o a e=>kk b o (by simpa using a) e) f0 f1 m f4 l;refine#[_,rfl,K4 (s:={s with heap:=h',toks:=tk}) (n:="range_iterator") c rfl rfl (by decide) #[.int (lo+i),H,u,#[t,?_],#[rfl,rfl],c,λb a=>(hf b a).1]];rw[Int.mul_one]
 done:=by
  intro X g hw hK f i p0 s Y H E I hf st d;subst g hw hK;rintro⟨f0,f1,f2,m,f4,l⟩:hf it (by simp);exact wpAny_pyNext_range_end (I.ok.hd f) st (by have:n<=i:=d;lia) λh' r=>#[rfl,I.turned (t':=s.toks) (λb o a e=>r b o a e) f0 f1 m f4 l]
 self:=λ_ _ _ _ _ st h=>wpAny_pyIter_rangeiter st h
section
variable{tg:Expr}
variable{p0:Oa}{H:Hp}{s:Shared}
theorem JE{Y:St}{R:It->Hp->Prop}{E:Va}{lo hi:Int}{t u v:Tok}{tk:Nat}(I:∅)(h1: -(2 ^ 62)<=lo)(h2:lo < 2 ^ 62)(f: -(2 ^ 62)<=hi)(d:hi < 2 ^ 62)
 (q:R (aE lo (hi-lo).toNat) H):(X|||(pyIter (.ref s.heap.objs.size))) (dH X p0 Y tg R) E {s with heap:=s.heap.push {cls:=.type "range",data:=.fields [.int lo t,.int hi u,.int 1 v].toArray},toks:=tk}:=by
 refine wpAny_pyIter_range (IsRange.new ..) (small_one h1 h2 f d) ?_;have a:Inv X p0 Y H {s with heap:=s.heap.push {cls:=.type "range",data:=.fields [.int lo t,.int hi u,.int 1 v].toArray},toks:=tk}:=I.kept λb o e=>gP e
 refine⟨(s.heap.push {cls:=.type "range",data:=.fields [.int lo t,.int hi u,.int 1 v].toArray}).objs.size,[(s.heap.push {cls:=.type "range",data:=.fields [.int lo t,.int hi u,.int 1 v].toArray}).objs.size],_,_,H,rfl,
  a.kept (t':=tk) λb o e=>gP e,Ky _ lo (hi-lo).toNat,?_,λb c=>?_,q⟩
 .have e1:lo+((0:Nat):Int)*1=lo:=by simp
  have e2:(((hi-lo).toNat:Nat):Int)-((0:Nat):Int)=Builtin.Range.rangeSize lo hi 1:=by rw[rangeSize_one];split<;>lia
  show IsRangeIter _ _ (lo+((0:Nat):Int)*1) ((((hi-lo).toNat:Nat):Int)-((0:Nat):Int)) 1;rw[e1,e2];exact Heap.get?_push_size _ rfl
 .have e:b=(s.heap.push {cls:=.type "range",data:=.fields [.int lo t,.int hi u,.int 1 v].toArray}).objs.size:=by simpa using c
  subst e;exact a.Lq (Nat.le_refl _) (a.Aj.fresh (Nat.le_refl _))
noncomputable def Vj(wi:TI)(g:TG)(tb:TS):TS:=λD Y H=>wi Y H λJ H1=>∃W:Nat->Nat->St->Hp->Prop,(∃m,W 0 m Y H1)/\∀i m Y H,W i m Y H->
 (J.stop i H/\D.nx Y H)\/(J.go i H/\∃N:St->Hp->Prop,(∀Y' H',N Y' H'->∃m',m' < m/\W (i+1) m' Y' H')/\∀x H',J.LS i H x H'->g x Y H' λY2 H2=>tb {D with nx:=N,ct:=N,bk:=D.nx} Y2 H2)
def Iz(fp:List Addr)(h:Heap):List (Addr×Obj):=fp.filterMap λb=>(h.get? b).map λo=>(b,o)
variable{fp:List Addr}{h:Heap}
theorem C3{b:Addr}{o:Obj}(a:b∈fp)(e:h.get? b=some o):(b,o)∈Iz fp h:=mem_filterMap.mpr #[b,a,by rw[e];rfl]
theorem N9{p:Addr×Obj}(a:p∈Iz fp h):p.1∈fp/\h.get? p.1=some p.2:=by
 rintro⟨b,c,e⟩:mem_filterMap.mp a;cases q:h.get? b with
 |none=>rw[q]at e;cases e
 |some o=>
   rw[q]at e;have d:(b,o)=p:=Option.some.inj e;subst d;exact#[c,q]
theorem Inv.pinned{Y:St}(I:∅)(hf:∀b∈fp,Fh X p0 H b)(g:∀b∈fp,∃o,s.heap.get? b=some o/\∀v,o.data≠.cell v):Inv X (p0++Iz fp s.heap) Y H s:=
 I.D5 λp f=>(mZ f).elim (λz=>I.pin p (mR z)) λz=>by
  rintro⟨a,e⟩:N9 z;rintro⟨f0,f1,f2,_⟩:hf p.1 a;rintro⟨o,c,d⟩:g p.1 a;rw[e]at c;cases c;exact#[e,f0,f1,f2,d]
theorem Inv.Ge{a:Oa}{Y:St}(I:Inv X (p0++a) Y H s):∅:=I.D5 λp b=>I.pin p (mR (mL b))
theorem OK{iter:Expr}{body:List Stmt}{wi:TI}{g:TG}{tb:TS}{pos:Pos}(B:PassesOwn (model X.prog X.w) X.A X.env X.xe)(R:X.calm=true)(hi:PI X tg iter wi)(hg:PG X tg g)(c:NO X body tb)
 (hs:∀x,foldedSetIterable iter X.env x=pure x:=by intro _;rfl):PS X (.For tg iter body [] pos) (Vj wi g tb):=by
 intro p0 s Y H D I h;refine wpAny_For (AS (hi p0 s Y H _ I h) λv s1 h1=>AS h1 λitv s2 h2=>?_) hs;rintro⟨it,fp,Q,J,H2,e,I2,T,G,f2,W,⟨m0,w0⟩,turn⟩:h2;subst e;have a:∀{H':Hp},(∀b∈fp,H' b=none)->∀b∈fp,Fh X p0 H' b:=λhn b c=>#[hn b c,(f2 b c).2]
 refine codeAny_forLoop_any (λn s'=>∃i Y' H',Inv X p0 Y' H' s'/\Q i s'.heap/\(∀b∈fp,H' b=none)/\W i n Y' H') ?_ m0 #[0,Y,H2,I2,G,λb c=>(f2 b c).1,w0]
 rintro n s3 ⟨i,E,F,S,y,C,w3⟩
 rcases turn i n E F w3 with⟨stop,qn⟩|⟨go,N,hN,step⟩
 .refine wpAny_passesOwn B (AS (T.done X rfl rfl rfl R i p0 s3 E F X.xe S (a C) y stop) λr s4 ⟨L,I4⟩=>?_);subst L;exact wpAny_execs_nil #[E,F,I4,qn]
 .refine wpAny_passesOwn B (AS (T.item X rfl rfl rfl R i p0 s3 E F X.xe S (a C) y go) λr s4 ⟨u,L,h4⟩=>?_);subst L;refine wpAny_passesOwn B (AS h4 λ_ s5 ⟨x,U,I5,r5,y5,t,O⟩=>?_);have P:=I5.pinned (a O) (T.obj _ _ t);refine wpAny_passesOwn B (AS (hg _ s5 E U x u _ P r5 (step x U y5)) λ_ s6 ⟨Y6,H6,I6,q6⟩=>?_);refine wpAny_passesOwn B (AS (c _ s6 Y6 H6 _ I6 q6) λf K q=>?_)
  have again:∀{k:St} {p:Hp},Inv X (p0++Iz fp s5.heap) k p K->N k p->∃m,m < n/\∃i Y' H',Inv X p0 Y' H' K/\Q i K.heap/\(∀b∈fp,H' b=none)/\W i m Y' H':=λ{k p} l z=>by
   rintro⟨m',hm,w7⟩:hN k p z;refine#[m',hm,i+1,k,p,l.Ge,T.keep _ _ _ t λb c o e=>(l.pin (b,o) (mR (mR (C3 c e)))).1,λb c=>?_,w7];rintro⟨o,e,d⟩:T.obj _ _ t b c;exact(l.pin (b,o) (mR (mR (C3 c e)))).2.1
  cases f with
  |next=>rintro⟨k,p,l,z⟩:q;exact again l z
  |cont=>rintro⟨k,p,l,z⟩:q;exact again l z
  |brk=>rintro⟨k,p,l,q⟩:q;exact#[k,p,l.Ge,q]
  |ret v=>rintro⟨Z,k,p,l,r7,q⟩:q;exact#[Z,k,p,l.Ge,r7,q]
end
abbrev R2:=V->V->Hp->VK->Prop
def BG(X:Cx)(f:Value->Value->Sem Value)(r:R2):Prop:=
 ∀ (p0:Oa) (s:Shared) (Y:St) (H:Hp) (x y:V) (v u:Value) (Q:VK),∅->RelV x v->RelV y u->r x y H Q->
   (X|||(f v u)) (EP X p0 Y Q) X.xe s
def Hl(X:Cx)(f:Value->Sem Value)(r:V->Hp->VK->Prop):Prop:=
 ∀ (p0:Oa) (s:Shared) (Y:St) (H:Hp) (x:V) (v:Value) (Q:VK),∅->RelV x v->r x H Q->
   (X|||(f v)) (EP X p0 Y Q) X.xe s
def Di(X:Cx)(f:Value)(r:List V->Hp->VK->Prop):Prop:=
 ∀ (p0:Oa) (s:Shared) (Y:St) (H:Hp) (xs:List V) (us:List Value) (Q:VK),∅->Vals xs us->r xs H Q->
   (X|||(call f us)) (EP X p0 Y Q) X.xe s
def ZU(X:Cx)(r:V->Hp->(Bool->Hp->Prop)->Prop):Prop:=
 ∀ (p0:Oa) (s:Shared) (Y:St) (H:Hp) (x:V) (v:Value) (Q:Bool->Hp->Prop),∅->RelV x v->r x H Q->
   (X|||(truthy v)) (TP X p0 Y Q) X.xe s
def Vi(r:R2)(ta tb:TE):TE:=λY H Q=>ta Y H λx H1=>tb Y H1 λy H2=>r x y H2 Q
def eE(r:V->Hp->VK->Prop)(ta:TE):TE:=λY H Q=>ta Y H λx H1=>r x H1 Q
def rI(C:Int->Int->Prop)(g:Int->Int->V):R2:=λx y H Q=>∃i j,x= .int i/\y= .int j/\C i j/\Q (g i j) H
def Uq(g:Int->Int->V):R2:=λx y H Q=>∃i j,x= .int i/\y= .int j/\Q (g i j) H
def rU(g:Int->V):V->Hp->VK->Prop:=λx H Q=>∃i,x= .int i/\Q (g i) H
section
variable{a b c:Expr}{ta tb tc:TE}
theorem Xt(n:PE X a ta)(m:PE X b tb){p0:Oa}{s:Shared}{Y:St}{H:Hp}{R:V->V->Hp->Prop}(I:∅)
 (h:ta Y H λx H1=>tb Y H1 λy H2=>R x y H2){Q:Va}{f:Value->Value->Sem Value}
 (hf:∀v u s2 x y H2,Inv X p0 Y H2 s2->RelV x v->RelV y u->R x y H2->(X|||(f v u)) Q X.xe s2):
 (X|||(eval a X.env)) (λv e=>(X|||(eval b X.env)) (λu d=>(X|||(f v u)) Q X.xe d) X.xe e) X.xe s:=by
 refine AS (n p0 s Y H _ I h) λv s1 ⟨x,H1,p,i,l⟩=>?_
 refine AS (m p0 s1 Y H1 _ p l) λu s2 ⟨y,H2,o,g,k⟩=>?_
 exact hf v u s2 x y H2 o i g k
theorem YZ{op:Operator}{r:R2}(f:BG X (binaryOp op) r)(i:PE X a ta)(g:PE X b tb):PE X (.BinOp a op b pos) (Vi r ta tb):=by
 intro p0 s Y H Q I h;exact wpAny_BinOp (Xt i g I h λv u s2 x y H2 k e d q=>f p0 s2 Y H2 x y v u Q k e d q)
theorem YX{op:UnaryOp}{r:V->Hp->VK->Prop}(f:Hl X (unaryOp op) r)(g:PE X a ta):PE X (.UnaryOp op a pos) (eE r ta):=by
 intro p0 s Y H Q I h;exact UnaryOp_ (AS (g p0 s Y H _ I h) λv s1 ⟨x,H1,i,d,e⟩=>f p0 s1 Y H1 x v Q i d e)
theorem aj{f:Value->Value->Sem Value}{C:Int->Int->Prop}{g:Int->Int->Int}
 (rule:∀(i j:Int) (t u:Tok) (s:Shared) (Q:Va) (E:Va),C i j->Q (.int (g i j) s.toks) {s with toks:=s.toks+1}->(X|||(f (.int i t) (.int j u))) Q E s):
 BG X f (rI C λi j=>.int (g i j)):=by
 intro p0 s Y H x y v u Q I e d h;rintro⟨i,j,rfl,rfl,k,q⟩:h;rintro⟨t,rfl⟩:e;rintro⟨t',rfl⟩:d;exact rule i j t t' s _ _ k #[.int (g i j),H,I.tok _,#[_,rfl],q]
theorem Z7{f:Value->Value->Sem Value}{g:Int->Int->Int}
 (rule:∀(i j:Int) (t u:Tok) (s:Shared) (Q:Va) (E:Va),Q (.int (g i j) s.toks) {s with toks:=s.toks+1}->(X|||(f (.int i t) (.int j u))) Q E s):
 BG X f (Uq λi j=>.int (g i j)):=by
 intro p0 s Y H x y v u Q I e d h;rintro⟨i,j,rfl,rfl,q⟩:h;rintro⟨t,rfl⟩:e;rintro⟨t',rfl⟩:d;exact rule i j t t' s _ _ #[.int (g i j),H,I.tok _,#[_,rfl],q]
theorem Sf{f:Value->Value->Sem Value}{g:Int->Int->Bool}
 (rule:∀(i j:Int) (t u:Tok) (s:Shared) (Q:Va) (E:Va),Q (.bool (g i j)) s->(X|||(f (.int i t) (.int j u))) Q E s):
 BG X f (Uq λi j=>.bl (g i j)):=by
 intro p0 s Y H x y v u Q I e d h;rintro⟨i,j,rfl,rfl,q⟩:h;rintro⟨t,rfl⟩:e;rintro⟨t',rfl⟩:d;exact rule i j t t' s _ _ #[.bl (g i j),H,I,rfl,q]
def cI(i j:Int):Prop:=0 < j/\j < 1073741824
def cH(i j:Int):Prop:=0<=j/\j<=1000000/\i.natAbs < 2 ^ 64
def XB(i j:Int):Prop:=(-(2 ^ 64) < i/\i < 2 ^ 64)\/(-(2 ^ 64) < j/\j < 2 ^ 64)
theorem XB.ok{i j:Int}(h:XB i j):IntMulOk i j:=by
 rcases h with⟨h1,h2⟩|⟨h1,h2⟩
 .exact .of_left (intBits_le_64 h1 h2)
 .exact .of_right (intBits_le_64 h1 h2)
theorem Wn:BG X (binaryOp .Add) (Uq λi j=>.int (i+j)):=Z7 λ_ _ _ _ _ _ _ q=>add_int q
theorem Wh:BG X (binaryOp .Sub) (Uq λi j=>.int (i-j)):=Z7 λ_ _ _ _ _ _ _ q=>sub_int q
theorem Wj:BG X (binaryOp .Mult) (rI XB λi j=>.int (i*j)):=aj λ_ _ _ _ _ _ _ d q=>mul_int q d.ok
theorem Se:BG X (binaryOp .FloorDiv) (rI cI λi j=>.int (i / j)):=aj λi j _ _ _ _ _ d q=>by
 have h1:(0:Int) < j:=d.1;have h2:j < 1073741824:=d.2;exact floordiv_int (by lia) (by rw[Int.fdiv_eq_ediv_of_nonneg i (by lia)];exact q) (.inl (PyProof.noPylong_small (by lia)))
theorem Wk:BG X (binaryOp .Mod) (rI (λ_ j=>0 < j) λi j=>.int (i % j)):=aj λi j _ _ _ _ _ d q=>by
 have h1:(0:Int) < j:=d;exact mod_int' (by lia) (by rw[Int.fmod_eq_emod_of_nonneg i (by lia)];exact q)
theorem Wi:BG X (binaryOp .Pow) (rI cH λi j=>.int (i ^ j.toNat)):=aj λ_ _ _ _ _ _ _ d q=>pow_int_small d.1 d.2.1 d.2.2 q
theorem eu{f:Value->Sem Value}{g:Int->Int}
 (rule:∀(i:Int) (t:Tok) (s:Shared) (Q:Va) (E:Va),Q (.int (g i) s.toks) {s with toks:=s.toks+1}->(X|||(f (.int i t))) Q E s):
 Hl X f (rU λi=>.int (g i)):=by
 intro p0 s Y H x v Q I d h;rintro⟨i,rfl,q⟩:h;rintro⟨t,rfl⟩:d;exact rule i t s _ _ #[.int (g i),H,I.tok _,#[_,rfl],q]
theorem V4:Hl X (unaryOp .USub) (rU λi=>.int (-i)):=eu λ_ _ _ _ _ q=>neg_int q
end
section
variable{a b c:Expr}{ta tb tc:TE}
theorem Lv{p0:Oa}{Y:St}{H:Hp}{s:Shared}{Q:VK}{k d:Bool}(I:∅)(q:Q (.bl k) H)(e:k=d):EP X p0 Y Q (.bool d) s:=by
 subst e;exact#[.bl k,H,I,rfl,q]
theorem Z3:BG X (compareOp .Lt) (Uq λi j=>.bl (decide (i < j))):=Sf λ_ _ _ _ _ _ _ q=>lt_int q
theorem Z4:BG X (compareOp .LtE) (Uq λi j=>.bl (decide (i<=j))):=Sf λ_ _ _ _ _ _ _ q=>le_int q
theorem Z5:BG X (compareOp .Gt) (Uq λi j=>.bl (decide (j < i))):=Sf λ_ _ _ _ _ _ _ q=>gt_int q
theorem Z6:BG X (compareOp .GtE) (Uq λi j=>.bl (decide (j<=i))):=Sf λ_ _ _ _ _ _ _ q=>ge_int q
theorem Wl:BG X (compareOp .Is) (λx y H Q=>y= .AG/\Q (.bl (decide (x= .AG))) H):=by
 intro p0 s Y H x y v u Q I d e h;rintro⟨rfl,q⟩:h;cases e;refine is_none_gen (Lv I q ?_)
 cases x<;>first
  |(cases d;rfl)
  |(rintro⟨t,rfl⟩:d;rfl)
theorem Sd:BG X (compareOp .IsNot) (λx y H Q=>y= .AG/\Q (.bl (!decide (x= .AG))) H):=by
 intro p0 s Y H x y v u Q I d e h;rintro⟨rfl,q⟩:h;cases e;refine isnot_none_gen (Lv I q ?_)
 cases x<;>first
  |(cases d;rfl)
  |(rintro⟨t,rfl⟩:d;rfl)
variable{r':R2}
theorem BG.or{f:Value->Value->Sem Value}{r:R2}(h:BG X f r)(h':BG X f r'):BG X f (λx y H Q=>r x y H Q\/r' x y H Q):=by
 intro p0 s Y H x y v u Q I e d q;rcases q with q|q
 .exact h p0 s Y H x y v u Q I e d q
 .exact h' p0 s Y H x y v u Q I e d q
variable{op:CmpOp}
theorem S6{r:R2}(f:BG X (compareOp op) r)(i:PE X a ta)(g:PE X b tb)(hm:behindInMarks op b=false):PE X (.Compare a [op] [b] pos) (Vi r ta tb):=by
 intro p0 s Y H Q I h;exact wpAny_Compare1 (Xt i g I h λv u s2 x y H2 k e d q=>f p0 s2 Y H2 x y v u Q k e d q) hm
def Ua(t:TE):TT:=λY H Q=>t Y H λx H'=>∃k,x= .bl k/\Q k H'
theorem RT{r:R2}(n:BG X (compareOp op) r)(p:PE X a ta)(o:PE X b tb)(hm:behindInMarks op b=false):PT X (.Compare a [op] [b] pos) (Ua (Vi r ta tb)):=by
 intro p0 s Y H Q I h
 refine wpAny_isTrue_Compare1 (AS (p p0 s Y H _ I h) λv s1 ⟨x,H1,w,g,m⟩=>AS (o p0 s1 Y H1 _ w m) λu s2 ⟨y,H2,t,f,l⟩=>
  AS (n p0 s2 Y H2 x y v u _ t g f l) λc s3 ⟨z,A,q,d,k,e,i⟩=>?_) hm
 subst e;cases d;exact wpAny_truthy_bool #[A,q,i]
def KA(r r':R2)(ta tb tc:TE):TE:=λY H Q=>ta Y H λx H1=>tb Y H1 λy H2=>r x y H2 λz H3=>∃k,z= .bl k/\
 (if k=true then tc Y H3 λw' H4=>r' y w' H4 Q else Q (.bl false) H3)
variable{op':CmpOp}
theorem OY{r:R2}(C:BG X (compareOp op) r)(f:BG X (compareOp op') r')(F:PE X a ta)(E:PE X b tb)(D:PE X c tc)
 (hm:lastMarks [op,op'] [b,c]=false:=by with_unfolding_all rfl):PE X (.Compare a [op,op'] [b,c] pos) (KA r r' ta tb tc):=by
 intro p0 s Y H Q I h
 refine Compare_chain (AS (F p0 s Y H _ I h) λv s1 ⟨x,H1,K,t,B⟩=>chain_link (AS (E p0 s1 Y H1 _ K B) λu s2 ⟨y,H2,J,g,A⟩=>
  AS (C p0 s2 Y H2 x y v u _ J t g A) λd s3 ⟨z,m,l,q,k,e,i⟩=>?_)) hm
 subst e;cases q;refine wpAny_truthy_bool ?_;cases k with
 |false=>exact ite_ff #[.bl false,m,l,rfl,i]
 |true=>exact ite_tt (chain_last (AS (D p0 s3 Y m _ l i) λo s4 ⟨n,L,G,p,w⟩=>f p0 s4 Y L y n u o Q G g p w))
theorem OG{r:R2}(F:BG X (compareOp op) r)(f:BG X (compareOp op') r')(K:PE X a ta)(J:PE X b tb)(G:PE X c tc)
 (hm:lastMarks [op,op'] [b,c]=false:=by with_unfolding_all rfl):PT X (.Compare a [op,op'] [b,c] pos) (Ua (KA r r' ta tb tc)):=by
 intro p0 s Y H Q I h
 refine isTrue_chain (AS (K p0 s Y H _ I h) λv s1 ⟨x,H1,R,w,D⟩=>test_link (AS (J p0 s1 Y H1 _ R D) λu s2 ⟨y,H2,P,g,C⟩=>
  AS (F p0 s2 Y H2 x y v u _ P w g C) λd s3 ⟨z,m,l,t,k,e,i⟩=>?_)) hm
 subst e;cases t;refine wpAny_truthy_bool ?_;cases k with
 |false=>
   rintro⟨W,L,E⟩:i;cases L;exact ite_ff #[m,l,E]
 |true=>
   refine ite_tt (test_last (AS (G p0 s3 Y m _ l i) λo s4 ⟨n,T,O,q,B⟩=>AS (f p0 s4 Y T y n u o _ O g q B) λd' s5 ⟨U,S,N,p,k2,e2,A⟩=>?_));subst e2;cases p;exact wpAny_truthy_bool #[S,N,A]
def ZT(K:Frag)(x:V)(H:Hp)(k:Bool):Prop:=
 match x with
 |.AG=>k=false
 |.bl b=>k=b
 |.int i=>k=(i != 0)
 |.str y=>y.length<=sizeLine/\k=((y.length:Int) != 0)
 |.XT y=>y.size<=sizeLine/\k=((y.size:Int) != 0)
 |.ref p=>(∃xs,DP K H p xs/\k= !xs.isEmpty)\/(∃xs,D2 K H p xs/\k= !xs.isEmpty)\/∃kvs,H p=some (.dK kvs)/\k= !kvs.isEmpty
 |_=>False
theorem Lj{κ:Type}{kvs:List (κ×V)}{vs:List (κ×Value)}(r:KV kvs vs):(!vs.isEmpty)= !kvs.isEmpty:=by
 cases r<;>rfl
theorem GF{xs:List V}{its:List Value}(r:Vals xs its):(!its.toArray.isEmpty)= !xs.isEmpty:=by
 cases r<;>simp
theorem D8:(sizeLine:Nat) < 2 ^ 63:=by rw[sizeLine_eq];decide
theorem V9:ZU X (λx H Q=>∃k,ZT X.K x H k/\Q k H):=by
 intro p0 s Y H x v Q I f h;rintro⟨k,e,q⟩:h;have hl:=D8;have hs:sizeLine=16777216:=sizeLine_eq;cases x with
 |AG=>
   cases f;have d:k=false:=e;subst d;exact truthy_none #[H,I,q]
 |bl b=>
   cases f;have d:k=b:=e;subst d;exact wpAny_truthy_bool #[H,I,q]
 |int i=>
   rintro⟨t,rfl⟩:f;have d:k=(i != 0):=e;subst d;exact PySem.P.truthy_int #[H,I,q]
 |str y=>
   rintro⟨t,rfl⟩:f;obtain⟨n,d⟩:y.length<=sizeLine/\k=((y.length:Int) != 0):=e;subst d;exact PySem.P.truthy_str (by lia) #[H,I.tok _,q]
 |XT y=>
   rintro⟨t,rfl⟩:f;obtain⟨n,d⟩:y.size<=sizeLine/\k=((y.size:Int) != 0):=e;subst d;exact PySem.W.truthy_bytes (by lia) #[H,I.tok _,q]
 |ref p=>
   cases f;have d:(∃xs,DP X.K H p xs/\k= !xs.isEmpty)\/(∃xs,D2 X.K H p xs/\k= !xs.isEmpty)\/∃kvs,H p=some (.dK kvs)/\k= !kvs.isEmpty:=e;rcases d with⟨xs,g,d⟩|⟨xs,g,d⟩|⟨kvs,g,d⟩
   .subst d;rintro⟨its,r,l,hz⟩:I.list g;have hlen:=r.length;exact wpAny_truthy_list l.isList (by simp only[size_toArray];lia) #[H,I.tok _,by rw[GF r];exact q]
   .subst d;rintro⟨its,r,l,hz⟩:I.tuple g;have hlen:=r.length;exact truthy_tuple l (by simp only[size_toArray];lia) #[H,I.tok _,by rw[GF r];exact q]
   .subst d;obtain⟨hz,o,vs,r,m⟩:kvs.length<=sizeLine/\(p == sysModules)=false/\∃vs,KV kvs vs/\s.heap.DictOf (IE X.prog X.w) p vs:=I.Aj p _ g;have hlen:kvs.length=vs.length:=Paired.length r;exact wpAny_truthy_dict o m (by lia) #[H,I.tok _,by rw[Lj r];exact q]
 |_=>exact(show False from e).elim
theorem KU:BG X (binaryOp .Add) (λx y H Q=>∃i j,x= .str i/\y= .str j/\i.length + j.length<=sizeLine/\Q (.str (i++j)) H):=by
 intro p0 s Y H x y v u Q I e d h;rintro⟨i,j,rfl,rfl,hz,q⟩:h;rintro⟨t,rfl⟩:e;rintro⟨t',rfl⟩:d;exact add_str (λt' tk=>#[.str (i++j),H,I.tok _,#[_,rfl],q]) hz
variable{us:List Value}
theorem vals1{x:V}(r:Vals [x] us):∃u,us=[u]/\RelV x u:=by
 cases r with
 |cons e d=>cases d;exact#[_,rfl,e]
theorem vals2{x y:V}(r:Vals [x,y] us):∃u d,us=[u,d]/\RelV x u/\RelV y d:=by
 cases r with
 |cons i g=>
   cases g with
   |cons f e=>cases e;exact#[_,_,rfl,i,f]
theorem Qw:Di X (.builtin "abs") (λxs H Q=>∃i,xs=[.int i]/\Q (.int (if i < 0 then -i else i)) H):=by
 intro p0 s Y H xs us Q I r h;rintro⟨i,rfl,q⟩:h;rintro⟨u,rfl,t,rfl⟩:vals1 r;exact call_abs_int λu tk=>#[.int (if i < 0 then -i else i),H,I.tok _,#[_,rfl],q]
theorem NJ(e:X.calm=true):Di X (.builtin "max") (λxs H Q=>∃i j,xs=[.int i,.int j]/\Q (.int (if j > i then j else i)) H):=by
 intro p0 s Y H xs us Q I r h;rintro⟨i,j,rfl,q⟩:h;rintro⟨u,f,rfl,⟨t,rfl⟩,⟨t',rfl⟩⟩:vals2 r;refine max_two_ints (I.ok.hd e) λh' tk k=>#[_,H,I.kept k,?_,q]
 by_cases d:j > i
 .rw[iP d,iP d];exact#[_,rfl]
 .rw[iN d,iN d];exact#[_,rfl]
theorem NI(e:X.calm=true):Di X (.builtin "min") (λxs H Q=>∃i j,xs=[.int i,.int j]/\Q (.int (if j < i then j else i)) H):=by
 intro p0 s Y H xs us Q I r h;rintro⟨i,j,rfl,q⟩:h;rintro⟨u,f,rfl,⟨t,rfl⟩,⟨t',rfl⟩⟩:vals2 r;refine min_two_ints (I.ok.hd e) λh' tk k=>#[_,H,I.kept k,?_,q]
 by_cases d:j < i
 .rw[iP d,iP d];exact#[_,rfl]
 .rw[iN d,iN d];exact#[_,rfl]
end
structure LM(h:Heap)(x dx C:Addr)(mA:Str->Option Value):Prop where
 obj:h.get? x=some (instObj C dx)
 ns:h.Ns1 dx mA
 ne:dx≠x
variable{dx:Addr}{mA:Str->Option Value}
theorem Ng(n:h.Ns1 dx mA):∃b,h.get? dx=some b/\∀name,lookIn name b=some (mA name):=by
 rintro⟨o,es,ep,d,hd,f,_,hm⟩:n;refine#[o,d,λname=>?_];have e:=hm name;unfold nsFind findBy at e;rw[<-Array.find?_toList]at e;unfold lookIn;rw[hd];dsimp only;split
 .rename_i y q;rw[q]at e;exact congrArg some e
 .rename_i q;rw[q]at e
  have a:es.toList.any (·.refKey)=false:=by
   rw[List.any_eq_false];intro y c;rintro⟨z,t,GH⟩:f y (Array.mem_toList_iff.mp c);simp[DictEntry.refKey,GH]
  have g:¬es.toList.any (·.refKey)=true:=by rw[a];exact Bool.false_ne_true
  rw[iN g];exact congrArg some e
theorem LM.look{C:Addr}(I:LM h x dx C mA):∃a,InstAt h x (instObj C dx) C (some a)/\∀name,lookIn name a=some (mA name):=
 let⟨a,b,hl⟩:=Ng I.ns
 #[a,#[I.obj,rfl,rfl,b],hl]
section
variable{prog:Program}{w:World}{A:Around}{E:Va}{K:Frag}{x dx C f:Addr}{mA:Str->Option Value}{name:Str}{v:Value}
theorem get_map{expr:Bool}{Q:Va}(X:K.In s.heap)(I:LM s.heap x dx C mA)(d:plainGet K C name=true)(c:hasDictIn K C=true)
 (e:findIn K (.ref C) name=some none)(b:mA name=some v)(a:handedIn v=true)(h:Q v {s with toks:=s.toks+1}):
 wpAny (model prog w) A (getAttr (.ref x) name expr) Q E s:=by
 rintro⟨g,J,hl⟩:I.look;exact PySem.W.get_value X J (plainGet_of d).1 (PySem.W.findObj_own c e rfl (by rw[hl,b])) a h
theorem Q7{b:Sem Bool}{Q:Value×List Value->Shared->Prop}(X:K.In s.heap)(I:LM s.heap x dx C mA)(a:plainGet K C name=true)
 (hf:findIn K (.ref C) name=some (some (.ref f)))(e:isFn K (.ref f)=true)(d:mA name=none)(h:Q (.ref f,[.ref x]) s):
 wpAny (model prog w) A (getMethod (.ref x) name b) Q E s:=by
 rintro⟨c,J,hl⟩:I.look;exact PySem.W.method_fn X J (plainGet_of a).1 (plainGet_of a).2 hf (beq_iff_eq.mp e) (by show(lookIn name c).map (·.isSome)=some false;rw[hl,d];rfl) h
theorem RH{ns:List Str}{Q:Unit->Shared->Prop}(X:K.In s.heap)(I:LM s.heap x dx C mA)
 (hs:findIn K (.ref C) "__setattr__"=some (some (.builtin "object.__setattr__")))(n:plainOver K C=true)(m:takerIn K C name=some none)(o:hasDictIn K C=true)
 (hw:PySem.Within mA ns)(hsz:ns.length<=sizeLine)
 (h:∀h',LM h' x dx C (λy=>if y=name then some v else mA y)->Heap.SameBut dx s.heap h'->Q () {s with heap:=h',toks:=s.toks+2}):
 wpAny (model prog w) A (setAttr (.ref x) name v) Q E s:=by
 rintro⟨u,J,hl⟩:I.look;refine PySem.W.set_plain X J hs (PySem.W.osa_open (s:={s with toks:=s.toks+1}) (r:=none) X J n m λb=>?_);rintro⟨cd,p,i⟩:PySem.W.any_some o;have l:s.heap.get? x=some #[.ref C,some dx,.plain,[].toArray]:=I.obj;refine wB (wpAny_pure (wB (wB (wpAny_loadPart l (wB (Looks.here (s:={s with toks:=s.toks+1}) (PySem.W.looks_clsIn X p) ?_))))));rw[i];refine wpAny_pure (a:=some dx) (wB (wpAny_pure (wB ?_)));refine wpAny_nsSet1 (s:={s with toks:=s.toks+1}) I.ns λh' d c=>?_
 rintro⟨z,q,t,e,g,k⟩:d.count (PySem.Within.cons name v hw);refine wB (wpAny_lookBehind e (by rw[g];exact pastItsLine_dict (Nat.le_trans k (by rw[lC];lia))) ?_);exact wpAny_pure (h _ #[(c.2 _ (Ne.symm I.ne)).trans I.obj,d,I.ne] c)
theorem Pm{R:Result->Shared->Prop}{vs:List Value}{kw:List (Str×Value)}(X:K.In s.heap)(hm:makesIn K C=true)
 (hi:findIn K (.ref C) "__init__"=some (some (.ref f)))(hf:typeIn K (.ref f)=some (.type "function"))
 (h:codeAny (model prog w) (A.under (.builtin "type.__call__" #[.ref C::vs,kw])) (.call (.ref f) #[.ref (s.heap.objs.size + 1)::vs,kw]) (PySem.W.InitBack (s.heap.objs.size + 1) R)
   {s with heap:=(s.heap.push emptyDict).push (instObj C s.heap.objs.size)}):
 codeAny (model prog w) A (.call (.ref C) #[vs,kw]) R s:=by
 rintro⟨a,g,d,t,os⟩:s;exact PySem.W.make_core (PySem.W.makes_of X hm) (PySem.W.looks_findIn X hi) (λself=>PySem.W.bind_fn X self hf) (.inl rfl) h
end
def Bz(f:Str)(v:V):List (Str×V)->List (Str×V)
 |[]=>[(f,v)]
 |(g,x)::r=>if g=f then(g,v)::r else(g,x)::Bz f v r
theorem Fo(f g:Str)(v:V):∀fs:List (Str×V),(Bz f v fs).lookup g=if g=f then some v else fs.lookup g
 | []=>by
   show List.lookup g [(f,v)]=_
   by_cases h:g=f
   .have a:(g == f)=true:=beq_iff_eq.mpr h;simp only[List.lookup,a,iP h]
   .have a:(g == f)=false:=beq_eq_false_iff_ne.mpr h;simp only[List.lookup,a,iN h]
 | (k, x)::r=>by
   have c:=Fo f g v r;rw[show Bz f v ((k,x)::r)=(if k=f then(k,v)::r else(k,x)::Bz f v r)from rfl]
   by_cases b:k=f
   .rw[iP b]
    by_cases h:g=k
    .have a:(g == k)=true:=beq_iff_eq.mpr h;simp only[List.lookup,a,iP (h.trans b)]
    .have a:(g == k)=false:=beq_eq_false_iff_ne.mpr h;simp only[List.lookup,a,iN (λe:g=f=>h (e.trans b.symm))]
   .rw[iN b]
    by_cases h:g=k
    .have a:(g == k)=true:=beq_iff_eq.mpr h;simp only[List.lookup,a,iN (λe:g=f=>b (h.symm.trans e))]
    .have a:(g == k)=false:=beq_eq_false_iff_ne.mpr h;simp only[List.lookup,a];exact c
theorem EZ(f:Str)(v:V):∀fs:List (Str×V),f∈(Bz f v fs).map (·.1)/\∀g,g∈fs.map (·.1)->g∈(Bz f v fs).map (·.1)
 |[]=>#[by simp[Bz],λg h=>by simp at h]
 | (k, x)::r=>by
   rintro⟨c,b⟩:EZ f v r;rw[show Bz f v ((k,x)::r)=(if k=f then(k,v)::r else(k,x)::Bz f v r)from rfl]
   by_cases a:k=f
   .rw[iP a];subst a;exact#[by simp,λg h=>by simpa using h]
   .rw[iN a];refine#[?_,λg h=>?_]
    .rw[map_cons];exact mem_cons_of_mem _ c
    .rw[map_cons]at h ⊢;rcases mem_cons.mp h with e|e
     .exact mem_cons.mpr (.inl e)
     .exact mem_cons_of_mem _ (b g e)
theorem Ft(f:Str)(v:V):∀fs:List (Str×V),(Bz f v fs).length<=fs.length + 1
 |[]=>by simp[Bz]
 | (k,x)::r=>by
   have b:=Ft f v r;rw[show Bz f v ((k,x)::r)=(if k=f then(k,v)::r else(k,x)::Bz f v r)from rfl]
   by_cases a:k=f
   .rw[iP a,lC,lC];lia
   .rw[iN a,lC,lC];lia
theorem Hm.some_of{o:Option Value}(r:Hm (some v) o):∃u,o=some u/\RelV v u:=by
 cases o with
 |none=>exact(show False from r).elim
 |some u=>exact#[u,rfl,r]
theorem Hm.none_of{o:Option Value}(r:Hm none o):o=none:=by
 cases o with
 |none=>rfl
 |some u=>exact(show False from r).elim
theorem Nx(r:RelV v u):handedIn u=true:=by
 cases v with
 |AG=>cases (show u=Value.none from r);rfl
 |bl b=>cases (show u=Value.bool b from r);rfl
 |int i=>rintro⟨t,e⟩:(show ∃t,u=Value.int i t from r);cases e;rfl
 |str x=>rintro⟨t,e⟩:(show ∃t,u=Value.str x t from r);cases e;rfl
 |XT b=>rintro⟨t,e⟩:(show ∃t,u=Value.bytes b t from r);cases e;rfl
 |ao b=>rintro⟨t,e⟩:(show ∃t,u=Value.float b t from r);cases e;rfl
 |ref a=>cases (show u=Value.ref a from r);rfl
 |ty n=>cases (show u=Value.type n from r);rfl
section
variable{P:Program}{w:World}{h:Heap}{a C dx:Addr}{fs fs':List (Str×V)}
theorem IM(Aj:DD P w H h)(e:H a=some (.ins C dx fs)):∃mA,LM h a dx C mA/\(∀f,Hm (fs.lookup f) (mA f))/\PySem.Within mA (fs.map (·.1))/\fs.length<=1000/\H dx=some (.own a):=by
 rintro⟨d,z,ne,b,mA,n,r,q⟩:(show Br P w H h a (.ins C dx fs)from Aj a _ e);exact#[mA,#[b,n,ne],r,q,z,d]
end
structure Kt(K:Frag)(C:Addr):Prop where
 pg:plainGet K C Str.empty=true
 hd:hasDictIn K C=true
 po:plainOver K C=true
 sa:findIn K (.ref C) "__setattr__"=some (some (.builtin "object.__setattr__"))
theorem Kt.get{K:Frag}{C:Addr}(c:Kt K C)(f:Str):plainGet K C f=true:=c.pg
def C5(K:Frag)(C:Addr)(f:Str):Prop:=findIn K (.ref C) f=some none
theorem C5.Yq{K:Frag}{C:Addr}(n:C5 K C f):takerIn K C f=some none:=by
 unfold takerIn;rw[show findIn K (.ref C) f=some none from n];rfl
structure Meth(K:Frag)(C:Addr)(m:Str)(f:Addr):Prop where
 at_:findIn K (.ref C) m=some (some (.ref f))
 fn:isFn K (.ref f)=true
 kp:keepIn K (.ref f)=true
section
variable{Y:St}{a C dx:Addr}{fs:List (Str×V)}{f:Str}{v:V}{A:Around}{E:Va}
theorem Ln{b:Bool}{Q:Va}(I:∅)(e:H a=some (.ins C dx fs))(c:Kt X.K C)(n:C5 X.K C f)(l:fs.lookup f=some v)
 (h:∀u s',Inv X p0 Y H s'->RelV v u->Q u s'):wpAny (model X.prog X.w) A (getAttr (.ref a) f b) Q E s:=by
 rintro⟨mA,O,r,_,_,_⟩:IM I.Aj e;rintro⟨u,g,d⟩:Hm.some_of (v:=v) (o:=mA f) (by rw[<-l];exact r f);exact get_map I.GC O (c.get f) c.hd n g (Nx d) (h u _ (I.tok _) d)
theorem Lm{b:Sem Bool}{Q:Value×List Value->Shared->Prop}(I:∅)(e:H a=some (.ins C dx fs))(c:Kt X.K C)(k:Meth X.K C m g)(l:fs.lookup m=none)
 (h:Q (.ref g,[.ref a]) s):wpAny (model X.prog X.w) A (getMethod (.ref a) m b) Q E s:=by
 rintro⟨mA,O,r,_,_,_⟩:IM I.Aj e;have d:mA m=none:=Hm.none_of (by rw[<-l];exact r m);exact Q7 I.GC O (c.get m) k.at_ k.fn d h
theorem KI{Q:Unit->Shared->Prop}(I:∅)(e:H a=some (.ins C dx fs))(c:Kt X.K C)(n:C5 X.K C f)(hl:fs.length < 1000)(l:RelV y u)
 (h:∀s',Inv X p0 Y (upd H a (.ins C dx (Bz f y fs))) s'->Q () s'):wpAny (model X.prog X.w) A (setAttr (.ref a) f u) Q E s:=by
 rintro⟨mA,O,r,wi,_,i⟩:IM I.Aj e;have hz:(fs.map (·.1)).length<=sizeLine:=by rw[lM,sizeLine_eq];lia
 refine RH I.GC O c.sa c.po n.Yq c.hd wi hz λh' d k=>h _ ?_
 have hd:∃o,h'.get? dx=some o:=let⟨o,_,_,t,_⟩:=d.ns;#[o,t];refine I.write (x:=a) (e:=dx) (by rw[e];exact True.intro) (.inr i) (λb q p z=>(k.2 b p).trans z) hd ?_;refine#[by rw[A4 O.ne];exact i,?_,O.ne,d.obj,_,d.ns,λg=>?_,λg m=>?_]
 .have:=Ft f y fs;lia
 .show Hm ((Bz f y fs).lookup g) (if g=f then some u else mA g);rw[Fo]
  by_cases q:g=f
  .rw[iP q,iP q];exact l
  .rw[iN q,iN q];exact r g
 .by_cases q:g=f
  .rw[q];exact(EZ f y fs).1
  .refine(EZ f y fs).2 g (wi g λz=>m ?_);show(if g=f then some u else mA g)=none;rw[iN q];exact z
theorem Inv.made(I:∅):Inv X p0 Y (upd (upd H s.heap.objs.size (.own (s.heap.objs.size + 1))) (s.heap.objs.size + 1) (.ins C s.heap.objs.size []))
 {s with heap:=(s.heap.push emptyDict).push (instObj C s.heap.objs.size)}:=by
 have e1:(s.heap.push emptyDict).get? s.heap.objs.size=some emptyDict:=Heap.get?_push_size s.heap rfl
 have e2:((s.heap.push emptyDict).push (instObj C s.heap.objs.size)).get? (s.heap.objs.size + 1)=some (instObj C s.heap.objs.size):=by
  have:=Heap.get?_push_size (s.heap.push emptyDict) (o:=instObj C s.heap.objs.size) rfl;rwa[Heap.size_push]at this
 have d:(s.heap.push emptyDict).Ns s.heap.objs.size (λ_=>none):=#[emptyDict,[].toArray,_,e1,rfl,(λe he=>absurd he (by simp)),λ_=>rfl];have g:=I.laid (a:=s.heap.objs.size) (o:=.own (s.heap.objs.size+1)) (h':=s.heap.push emptyDict) (t':=s.toks) (λb u q=>gP q) (Nat.le_refl _) #[_,e1];refine g.laid (a:=s.heap.objs.size+1) (o:=.ins C s.heap.objs.size []) (t':=s.toks) (λb u q=>gP q) (Nat.le_of_eq (Heap.size_push _ _)) ?_;have ne:s.heap.objs.size≠s.heap.objs.size+1:=Nat.ne_of_lt (Nat.lt_succ_self _);refine#[by rw[A4 ne,A6],Nat.zero_le _,ne,e2,λ_=>none,(Heap.Ns1.of_empty d).at λo q=>gP q,λ_=>True.intro,λy c=>absurd rfl c]
theorem TK{prog:Program}{w:World}{env:Env}{pos:Pos}{s:Shared}{Q:Va}(c:attributeBase e f env (eval e env)=eval e env)
 (h:wpAny (model prog w) A (eval e env) (λo b=>wpAny (model prog w) A (getAttr o f true) Q E b) E s):wpAny (model prog w) A (eval (.Attribute e f pos) env) Q E s:=
 Attribute_any_ h (by rw[arm_eval_Attribute,c])
end
def Vk(K:Frag)(ta:TE)(f:Str):TE:=λY H Q=>ta Y H λx H1=>∃a C dx fs v,x= .ref a/\H1 a=some (.ins C dx fs)/\Kt K C/\C5 K C f/\fs.lookup f=some v/\Q v H1
def YL(K:Frag)(ta tv:TE)(f:Str):TS:=λD Y H=>tv Y H λy H1=>ta Y H1 λx H2=>∃a C dx fs,x= .ref a/\H2 a=some (.ins C dx fs)/\Kt K C/\C5 K C f/\fs.length < 1000/\
 D.nx Y (upd H2 a (.ins C dx (Bz f y fs)))
section
variable{o e value:Expr}{f:Str}{pos' tpos:Pos}{ta tv:TE}
theorem OW(he:PE X e ta)(g:attributeBase e f X.env (eval e X.env)=eval e X.env):PE X (.Attribute e f pos) (Vk X.K ta f):=by
 intro p0 s Y H Q I h;refine TK g (AS (he p0 s Y H _ I h) λu s1 ⟨x,H1,m,b,a,C,dx,fs,v,ex,i,c,n,l,q⟩=>?_);subst ex;obtain rfl:u=Value.ref a:=b;exact Ln m i c n l λu' s2 k d=>#[v,H1,k,d,q]
theorem VR(m:PE X o ta)(k:PE X value tv)(hs:swapsWith value (some (.Attribute o f pos')) pos.line X.env=pure false):PS X (.Assign [.Attribute o f pos'] value pos) (YL X.K ta tv f):=by
 intro p0 s Y H D I h;refine plainObj_wpAny_Assign_Attribute (AS (k p0 s Y H _ I h) λu s1 ⟨y,H1,v,b,q⟩=>AS (m p0 s1 Y H1 _ v q) λi s2 ⟨x,H2,t,d,a,C,dx,fs,ex,p,c,n,l,g⟩=>?_) hs;subst ex;obtain rfl:i=Value.ref a:=d;exact KI t p c n l b λs3 r=>#[Y,_,r,g]
end
structure BU(k:Nat)(A:Around):Prop where
 hd:A.handled=none
 dp:A.depth+3*k+5 < recursionLimit
 un:A.units+16*k+200 < cLine
theorem BU.mono{k:Nat}{A:Around}(r:BU k A)(h:j<=k):BU j A:=#[r.hd,by have:=r.dp;lia,by have:=r.un;lia]
theorem BU.deeper{k:Nat}{A:Around}(r:BU (k + 1) A)(env:Env):BU k (A.deeper env):=
 #[r.hd,by have:=r.dp;show A.depth+1+3*k+5 < _;lia,by have:=r.un;show A.units+3+16*k+200 < _;lia]
variable{kw:List (Str×Value)}
theorem L6{A:Around}{C:Addr}:(A.under (.builtin "type.__call__" #[.ref C::us,kw])).depth=A.depth + 1:=by
 first|rfl|simp[Around.under,Code.weight,Code.isCreation,Code.isGuard,Code.isCaller,Code.frames,Code.isFrame,guardIds]
theorem L5{A:Around}{C:Addr}:(A.under (.builtin "type.__call__" #[.ref C::us,kw])).units=A.units + 1:=by
 first|rfl|simp[Around.under,Code.cUnits,Code.frames,Code.isFrame]
theorem BU.make{k:Nat}{A:Around}(r:BU (k + 1) A)(C:Addr)(us:List Value)(kw:List (Str×Value)):BU k (A.under (.builtin "type.__call__" #[.ref C::us,kw])):=
 #[r.hd,by have:=r.dp;rw[L6];lia,by have:=r.un;rw[L5];lia]
theorem BU.depth{k:Nat}{A:Around}(r:BU k A):A.depth < recursionLimit:=by have:=r.dp;lia
def Ob:TA:=λ_ H Q=>Q [] H
def Jt(ta:TE)(tr:TA):TA:=λY H Q=>ta Y H λx H1=>tr Y H1 λxs H2=>Q (x::xs) H2
variable{e:Expr}{es:List Expr}{te:TE}{t:TA}
theorem Bv:PA X [] Ob:=λ_ _ _ _ H Q I h=>Calls.spliced_nil #[[],H,I,.nil,h]
theorem AB(g:PE X e te)(f:PA X es t)(hs:starEach (e::es) X.env=(false,eval e X.env)::starEach es X.env:=by rfl):PA X (e::es) (Jt te t):=by
 intro pos p0 s Y H Q I h;rw[hs];show wpAny _ _ (spliced ((false,eval e X.env)::backTo pos (starEach es X.env))) _ _ s;refine Calls.spliced_cons (AS (g p0 s Y H _ I h) λu s1 ⟨x,H1,k,b,d⟩=>?_);exact AS (f pos p0 s1 Y H1 _ k d) λus s2 ⟨xs,H2,i,a,c⟩=>#[x::xs,H2,i,.cons b a,c]
def aM(t:TA):TE:=λY H Q=>t Y H λxs H1=>xs.length<=sizeLine/\∀p,H1 p=none->Q (.ref p) (upd H1 p (.tup xs))
def aN(t:TA):TE:=λY H Q=>t Y H λxs H1=>xs.length<=sizeLine/\∀p,H1 p=none->Q (.ref p) (upd H1 p (.lst xs))
theorem VU{c}(h:PA X es t):PE X (.Tuple es c pos) (aM t):=by
 intro p0 s Y H Q I hq;refine wpAny_Tuple_spliced (AS (h pos p0 s Y H _ I hq) λus s1 ⟨xs,H1,a,r,z,q⟩=>#[by rw[<-r.length];exact z,?_]);have hf:H1 s1.heap.objs.size=none:=a.Aj.fresh (Nat.le_refl _);refine#[.ref s1.heap.objs.size,upd H1 s1.heap.objs.size (.tup xs),a.laid (t':=s1.toks) (λb u e=>gP e) (Nat.le_refl _) ?_,rfl,q _ hf];exact#[z,us,r,#[_,Heap.get?_push_size _ rfl,rfl,_,rfl]]
theorem VY(h:PA X es t):PE X (.List es pos) (aN t):=by
 intro p0 s Y H Q I hq;refine wpAny_List_spliced (AS (h pos p0 s Y H _ I hq) λus s1 ⟨xs,H1,a,r,z,q⟩=>#[by rw[<-r.length];exact z,?_]);have hf:H1 s1.heap.objs.size=none:=a.Aj.fresh (Nat.le_refl _);refine#[.ref s1.heap.objs.size,upd H1 s1.heap.objs.size (.lst xs),a.laid (t':=s1.toks) (λb u e=>gP e) (Nat.le_refl _) ?_,rfl,q _ hf];exact#[z,us,0,r,Heap.get?_push_size _ rfl]
abbrev Sp:=List V->Hp->VK->XK->Prop
abbrev XA:=List Env->Hp->Shared->XK->Value->Shared->Prop
structure FW(P:Program)(w:World)(K:Frag)(mg:Str->Option Value)(base:Heap)(A:Around)(outer:List Env)(s:Shared)(H:Hp):Prop where
 frames:A.frames=some outer
 mod:Mod K mg base
 bs:∀b o,base.get? b=some o->s.heap.get? b=some o/\H b=none
 UT:base.objs.size<=s.heap.objs.size
 FP:s.heap.FunFrames base outer
 XR:∀b∈Lp outer,H b=none
 Aj:DD P w H s.heap
 bare:AllBare s.gens
def CE(outer:List Env)(P:Program)(w:World)(H:Hp)(s:Shared)(Q:VK)(u:Value)(s':Shared):Prop:=
 ∃v H',s'.os=s.os/\AllBare s'.gens/\Un (Lp outer) [] H H' s.heap s'.heap/\DD P w H' s'.heap/\RelV v u/\Q v H'
def CR(CX:XA)(outer:List Env)(P:Program)(w:World)(H:Hp)(s:Shared)(Q:VK)(E:XK)(r:Result)(s':Shared):Prop:=
 match r with
 |.ok (.ret u)=>CE outer P w H s Q u s'
 |.ok _=>False
 |.error e=>CX outer H s E e s'
structure GX(P:Program)(w:World)(K:Frag)(mg:Str->Option Value)(base:Heap)(CX:XA)(k:Nat)(f:Addr)(fd:FuncData)(ps:List Str)(sp:Sp):Prop where
 len:∀vs H Q E,sp vs H Q E->vs.length=ps.length
 run:∀(A:Around) (outer:List Env) (s:Shared) (H:Hp) (args:Args) (us:List Value) (vs:List V) (Q:VK) (E:XK),BU k A->FW P w K mg base A outer s H->BindsTo s fd args (ps.zip us)->Vals vs us->sp vs H Q E->
  codeAny (model P w) A (.call (.ref f) args) (CR CX outer P w H s Q E) s
variable{mg:Str->Option Value}{base:Heap}{CX:XA}{fd:FuncData}{sp:Sp}
theorem GX.imp{P:Program}{w:World}{K:Frag}{k:Nat}{ps:List Str}{a:Sp}(F:GX P w K mg base CX k f fd ps sp)
 (h:∀vs H Q E,a vs H Q E->sp vs H Q E):GX P w K mg base CX k f fd ps a:=
 #[λvs H Q E q=>F.len vs H Q E (h _ _ _ _ q),λA outer s H args us vs Q E c he d b hs=>F.run A outer s H args us vs Q E c he d b (h _ _ _ _ hs)]
theorem FW.make{P:Program}{w:World}{K:Frag}{A:Around}{outer:List Env}(e:FW P w K mg base A outer s H)(C:Addr)(us:List Value)(kw:List (Str×Value)):
 FW P w K mg base (A.under (.builtin "type.__call__" #[.ref C::us,kw])) outer s H:=#[by first|exact e.frames|(simpa[Around.under,Code.envs,Code.isFrame,pushEnvs]using e.frames),e.mod,e.bs,e.UT,e.FP,e.XR,e.Aj,e.bare]
section
variable{Y:St}{s':Shared}
theorem Inv.ZL(I:∅):FW X.prog X.w X.K X.mg X.base X.A X.stack s H:=
 #[I.ok.frames,I.ok.mod,I.bs,Nat.le_trans I.ok.UT I.sz,I.stack,I.Iq,I.Aj,I.bare]
theorem Inv.after{Q:VK}(I:∅)(h:CE X.stack X.prog X.w H s Q u s'):EP X p0 Y Q u s':=by
 rintro⟨v,H',os,bare,un,Aj,r,q⟩:h;rintro⟨c,g,d,t,a⟩:s';obtain rfl:a=s.os:=os;exact#[v,H',I.call (h':=c) (g':=g) (d':=d) (t':=t) (ch:=[]) un Aj bare (λb z=>absurd z (by simp)),r,q]
end
def Ue(C:Addr)(sp:Sp)(dvs:List V)(E:XK)(t:TA):TE:=λY H Q=>t Y H λvs H1=>∀x dx,H1 x=none->H1 dx=none->dx≠x->
 sp (.ref x::(vs++dvs)) (upd (upd H1 dx (.own x)) x (.ins C dx [])) (λv H2=>v= .AG/\Q (.ref x) H2) E
def Binds(K:Frag)(fd:FuncData)(ps:List Str)(ds:List Value):Prop:=
 ∀(s:Shared) (us:List Value),K.In s.heap->(us++ds).length=ps.length->BindsTo s fd #[us,[]] (ps.zip (us++ds))
theorem Binds.all{K:Frag}{ps:List Str}(h:∀us:List Value,us.length=ps.length->bindArgs fd #[us,[]]=pure (ps.zip us)):Binds K fd ps []:=λs us _ hl=>by
 rw[append_nil]at hl ⊢;exact .of_eq (h us hl)
section
variable{CX:XA}{k:Nat}{f C:Addr}{fd:FuncData}{ps:List Str}{sp:Sp}{dvs:List V}{ds:List Value}{E:XK}{x m:Str}{p apos:Pos}{o:Expr}{ta:TE}
structure Mk(K:Frag)(C f:Addr):Prop where
 makes:makesIn K C=true
 init:findIn K (.ref C) "__init__"=some (some (.ref f))
 fn:isFn K (.ref f)=true
 kp:keepIn K (.ref C)=true
end
structure EI(N P:List Str)(sc:Scope):Prop where
 kind:sc.kind= .function
 co:sc.isCoroutine=false
 gen:sc.isGenerator=false
 nd:N.Nodup
 pre:N.take P.length=P
 par:∀x∈P,sc.names.lookup x=some .local\/sc.names.lookup x=some .cell
 Wy:∀y∈sc.names,y.2≠.free
theorem HW{kindOf:Str->Option NameKind}{x:Str}:∀{binds:List (Str×Value)} {m:Str->Option Value},(∀v,(x,v)∉binds)->bindL kindOf binds m x=m x
 |[],_,_=>rfl
 | (n,v)::r,m,h=>by
   unfold bindL;rw[HW λw hw=>h w (mem_cons_of_mem _ hw)];split
   .have:x≠n:=by rintro rfl;exact h v mS
    simp[this]
   .rfl
theorem HY{kindOf:Str->Option NameKind}{x:Str}:∀{binds:List (Str×Value)} {m:Str->Option Value},(∀v,(x,v)∉binds)->bindC kindOf binds m x=m x
 |[],_,_=>rfl
 | (n,v)::r,m,h=>by
   unfold bindC;rw[HY λw hw=>h w (mem_cons_of_mem _ hw)];split
   .rfl
   .have:x≠n:=by rintro rfl;exact h v mS
    simp[this]
theorem HX{kindOf:Str->Option NameKind}{x:Str}{v:Value}:∀{P:List Str} {vs:List Value} {i:Nat} {m:Str->Option Value},P.Nodup->P[i]? =some x->vs[i]? =some v->kindOf x=some .local->
 bindL kindOf (P.zip vs) m x=some v
 |[],_,_,_,_,h,_,_=>by simp at h
 |_::_,[],_,_,_,_,h,_=>by simp at h
 | p::P,w::vs,0,m,nd,h1,h2,a=>by
   simp at h1 h2;subst h1;subst h2;show bindL kindOf ((p,w)::P.zip vs) m p=_;unfold bindL;rw[HW λv b=>(nodup_cons.mp nd).1 (of_mem_zip b).1,iP a];simp
 | p::P,w::vs,i + 1,m,nd,h1,h2,a=>by
   show bindL kindOf ((p,w)::P.zip vs) m x=_;unfold bindL;exact HX (i:=i) (nodup_cons.mp nd).2 (by simpa using h1) (by simpa using h2) a
theorem HZ{kindOf:Str->Option NameKind}{x:Str}{v:Value}:∀{P:List Str} {vs:List Value} {i:Nat} {m:Str->Option Value},P.Nodup->P[i]? =some x->vs[i]? =some v->kindOf x≠some .local->
 bindC kindOf (P.zip vs) m x=some v
 |[],_,_,_,_,h,_,_=>by simp at h
 |_::_,[],_,_,_,_,h,_=>by simp at h
 | p::P,w::vs,0,m,nd,h1,h2,a=>by
   simp at h1 h2;subst h1;subst h2;show bindC kindOf ((p,w)::P.zip vs) m p=_;unfold bindC;rw[HY λv b=>(nodup_cons.mp nd).1 (of_mem_zip b).1,iN a];simp
 | p::P,w::vs,i + 1,m,nd,h1,h2,a=>by
   show bindC kindOf ((p,w)::P.zip vs) m x=_;unfold bindC;exact HZ (i:=i) (nodup_cons.mp nd).2 (by simpa using h1) (by simpa using h2) a
def start(N:List Str)(vs:List V):St:=vs.map some++List.replicate (N.length-vs.length) none
noncomputable def LG(CX:XA)(P:Program)(w:World)(K:Frag)(mg:Str->Option Value)(base:Heap)(N:List Str)(qual:Str)(scope:Scope)(f:Addr)(cd:Value)(A:Around)(outer:List Env)(s:Shared)(H:Hp)(E:XK):Cx where
 prog:=P
 w:=w
 K:=K
 mg:=mg
 base:=base
 A:=A.deeper (envOfC qual scope s.heap.objs.size f cd)
 N:=N
 s₀:=s
 H₀:=H
 env:=envOfC qual scope s.heap.objs.size f cd
 outer:=outer
 stack:=envOfC qual scope s.heap.objs.size f cd::outer
 ex:=[]
 calm:=true
 fn:=λ_=>true
 pn:=[]
 xe:=λe s'=>wpAny (model P w) (A.deeper (envOfC qual scope s.heap.objs.size f cd)) (leaving (envOfC qual scope s.heap.objs.size f cd) e) (λ_ s''=>CX outer H s E e s'') (λe' s''=>CX outer H s E e' s'') s'
theorem Kf{sc:Scope}{n:Nat}(h:sc.names.lookup x=some .cell):∃c,(cellsFrom n sc.names []).lookup x=some c:=by
 have q:=cellsFrom_some sc.names n [] (.inl h);exact Option.isSome_iff_exists.mp q
variable{qual:Str}
theorem Nr{P:Program}{w:World}{K:Frag}{N ps:List Str}{scope:Scope}{cd:Value}{A:Around}{outer:List Env}{s1:Shared}{E:XK}{vs:List V}
 (S:EI N ps scope)(hd:A.handled=none)(e0:FW P w K mg base A outer s H)(hl:vs.length=ps.length)(r:Vals vs us)
 (x:InCallC s s.heap.objs.size (bindL (envOfC qual scope s.heap.objs.size f cd).kindOf (ps.zip us) λ_=>none) (cellsFrom (s.heap.objs.size+1) scope.names []) (bindC (envOfC qual scope s.heap.objs.size f cd).kindOf (ps.zip us) λ_=>none) s1):
 Inv (LG CX P w K mg base N qual scope f cd A outer s H E) [] (start N vs) H s1:=by
 have D:ps.length<=N.length:=by have:=congrArg List.length S.pre;rw[length_take]at this;lia
 rintro⟨h1,tk,rfl,B⟩:x.done;have d:∀b:Addr,b∉(LG CX P w K mg base N qual scope f cd A outer s H E).ex:=λb z=>absurd (show b∈([]:List Addr)from z) (by simp)
 refine⟨#[e0.mod,S.kind,rfl,rfl,Nat.le_refl _,λy z c h1 h2=>?_,λy g=>?_,λy c _ h=>?_,λ_=>hd,Around.frames_deeper e0.frames,.inr #[rfl,rfl],λb z=>absurd z (d b),e0.bs,e0.UT,λb _ _=>d b,λb z=>absurd z (d b),e0.FP,e0.XR],
  rfl,e0.bare,Un.kept B,#[_,x.toInCall.ns,λi y v h1 h2 G=>?_],λy c h=>#[_,x.cell y c h],e0.Aj.fresh (Nat.le_refl _),λy c h=>?_,λp m=>absurd (show p∈([]:Oa)from m) (by simp),e0.Aj.kept B,?_⟩
 .exact name_of_addr x.apart (PySem.mem_of_lookup h1) (PySem.mem_of_lookup h2)
 .have g:scope.names.lookup y=some .cell\/scope.names.lookup y=some .free:=g;rcases g with g|g
  .exact Kf g
  .exact absurd rfl (S.Wy _ (PySem.mem_of_lookup g))
 .exact Nat.le_of_lt (x.above y c (PySem.mem_of_lookup h))
 .have hi:i < vs.length:=by
   unfold start at h2
   by_cases hi:i < vs.length
   .exact hi
   .rw[List.getElem?_append_right (by simpa using hi)]at h2;rw[List.getElem?_replicate]at h2;split at h2<;>cases h2
  have F:vs[i]? =some v:=by
   unfold start at h2;rw[List.getElem?_append_left (by simpa using hi),List.getElem?_map]at h2;cases e:vs[i]? with
   |none=>rw[e]at h2;cases h2
   |some a=>rw[e]at h2;cases h2;rfl
  rintro⟨u,o,C⟩:r.get F
  have m:ps[i]? =some y:=by
   rw[<-S.pre,List.getElem?_take_of_lt (by lia)];exact h1
  have l:ps.Nodup:=by rw[<-S.pre];exact S.nd.sublist (List.take_sublist _ _)
  refine#[u,C,?_];rcases S.par y (mem_of_getElem? m)with k|k
  .exact .inl #[k,HX l m o k]
  .obtain⟨c,e⟩:=Kf (n:=s.heap.objs.size+1) k;refine .inr #[.inl k,c,e,?_];have q:=x.cell y c e;rw[HZ l m o (by show scope.names.lookup y≠_;rw[k];decide)]at q;exact q
 .exact e0.Aj.fresh (Nat.le_of_lt (x.above y c (PySem.mem_of_lookup h)))
 .unfold start;show _=N.length;rw[lA,lM,List.length_replicate]
  lia
theorem Qa{P:Program}{w:World}{K:Frag}{k:Nat}{name:Str}{params:Arguments}{scope:Scope}{z kV doc pm a ct oc:Value}{an C:Option Addr}
 {l:Array (Option Value)}{N ps:List Str}(lk:K.lookup f=some #[oc,C,.func (fnOf name qual params body scope z kV doc pm an a ct),l])(p:codeIn K a qual=true)(S:EI N ps scope)
 (len:∀vs H Q E,sp vs H Q E->vs.length=ps.length)
 (d:∀(A:Around) (outer:List Env) (s:Shared) (H:Hp) (vs:List V) (Q:VK) (E:XK),BU k (A.deeper (envOfC qual scope s.heap.objs.size f a))->sp vs H Q E->
  ∃t,NO (LG CX P w K mg base N qual scope f a A outer s H E) body t/\t {nx:=λ_ H'=>Q .AG H',rt:=Q} (start N vs) H):
 GX P w K mg base CX (k+1) f (fnOf name qual params body scope z kV doc pm an a ct) ps sp:=by
 refine#[len,λA outer s H args us vs Q E m e0 G r g=>?_];have hl:=len _ _ _ _ g;have B:K.In s.heap:=e0.mod.By.keeps λb o e=>(e0.bs b o e).1
 have lim:s.heap.NoLimit:=e0.mod.nolimit.keeps λb o e=>(e0.bs b o e).1
 have c:∀y∈ps.zip us,scope.names.lookup y.1=some .local\/(scope.names.lookup y.1=some .cell/\((cellsFrom (s.heap.objs.size + 1) scope.names []).lookup y.1).isSome=true):=λ⟨n,v⟩ D=>by
  rcases S.par n (of_mem_zip D).1 with q|q
  .exact .inl q
  .exact .inr #[q,cellsFrom_some _ _ _ (.inl q)]
 refine codeAny_call_function m.depth (B _ _ lk) rfl S.co S.gen rfl (PySem.W.codeRec_of B p) (G _ _ _ _ ?_);refine wpAny_newFunctionEnv_cells S.kind c λenv he s1 x=>?_
 subst he;refine#[lim.keeps x.toInCall.keep,codeAny_func ?_];rintro⟨t,F,hq⟩:d A outer s H vs Q E (m.deeper _) g;have I:Inv (LG CX P w K mg base N qual scope f a A outer s H E) [] (start N vs) H s1:=Nr S m.hd e0 hl r x;refine wpAny_mono (F [] s1 (start N vs) H _ I hq) (λfl s' hs=>?_) λe s' hs=>hs
 have fin:∀{Y':St} {H':Hp} {v:V} {u:Value},Inv (LG CX P w K mg base N qual scope f a A outer s H E) [] Y' H' s'->RelV v u->Q v H'->CE outer P w H s Q u s':=
  λ{Y' H' v u} J i q=>#[v,H',J.os,J.bare,J.base,J.Aj,i,q]
 cases fl with
 |ret u=>
   rintro⟨v,Y',H',J,i,q⟩:hs;exact fin J i q
 |next=>
   rintro⟨Y',H',J,q⟩:hs;exact fin (v:=V.AG) (u:=Value.none) J rfl q
 |brk=>
   rintro⟨_,_,_,q⟩:hs;exact False.elim q
 |cont=>
   rintro⟨_,_,_,q⟩:hs;exact False.elim q
section
variable{x:Str}{p:Pos}{id T:String}{r:List V->Hp->VK->Prop}
def cX(r:List V->Hp->VK->Prop)(t:TA):TE:=λY H Q=>t Y H λvs H1=>r vs H1 Q
theorem Dr(k:Di X (.builtin id) r)(i:Gl X x)(hm:X.mg x=none)(f:bootBuiltins x=some (.builtin id))(l:PA X (e::es) t)(g:x≠"__name__":=by decide)(b:ng x:=by decide)
 (he:starEach (e::es) X.env=(false,eval e X.env)::starEach es X.env:=by rfl)(a:(backTo pos (starEach es X.env)).any (·.1)=false:=by rfl):PE X (.Call (.Name x p) (e::es) [] pos) (cX r t):=by
 intro p0 s Y H Q I h;refine wpAny_Call_Name_kw (CJ I i hm f ?_ g b);exact PyProof.Rows.callWith_builtin1 (AS (l pos p0 s Y H _ I h) λus s1 ⟨vs,H1,m,c,d⟩=>k p0 s1 Y H1 vs us Q m c d) he a
theorem Hx(k:Di X (.type T) r)(i:Gl X x)(hm:X.mg x=none)(f:bootBuiltins x=some (.type T))(l:PA X (e::es) t)(g:x≠"__name__":=by decide)(b:ng x:=by decide)
 (he:starEach (e::es) X.env=(false,eval e X.env)::starEach es X.env:=by rfl)(a:(backTo pos (starEach es X.env)).any (·.1)=false:=by rfl):PE X (.Call (.Name x p) (e::es) [] pos) (cX r t):=by
 intro p0 s Y H Q I h;refine wpAny_Call_Name_kw (CJ I i hm f ?_ g b);exact PyProof.Rows.callWith_type1 (AS (l pos p0 s Y H _ I h) λus s1 ⟨vs,H1,m,c,d⟩=>k p0 s1 Y H1 vs us Q m c d) he a
end
end L2
namespace HT
open PySem PyProof.Rows
section
variable{prog:Program}{w:World}{A:Around}{E:Va}{s:Shared}
def BD(n d:Nat):Option Int->Nat
 |none=>d
 |some v=>if v < 0 then(v+(n:Int)).toNat else min v.toNat n
theorem VH(n d:Nat)(hd:d<=n)(o:Option Int):BD n d o<=n:=by
 cases o with
 |none=>exact hd
 |some v=>
   show(if v < 0 then(v+(n:Int)).toNat else min v.toNat n)<=n
   by_cases a:v < 0
   .rw[iP a];lia
   .rw[iN a];exact Nat.min_le_right _ _
theorem MB(v:Int)(n d:Nat):(if v < 0 then max (v + (n:Int)) 0 else min v (n:Int))=((BD n d (some v):Nat):Int):=by
 show(if v < 0 then max (v+(n:Int)) 0 else min v (n:Int))=(((if v < 0 then(v+(n:Int)).toNat else min v.toNat n):Nat):Int)
 by_cases a:v < 0
 .simp only[iP a];lia
 .simp only[iN a];lia
theorem LL(lo hi:Option Int)(n:Nat):Builtin.Slice.sliceAdjust lo hi 1 (n:Int)=(((BD n 0 lo:Nat):Int),((BD n n hi:Nat):Int)):=by
 have h1:¬((1:Int) < 0):=by lia
 unfold Builtin.Slice.sliceAdjust;simp only[h1,if_false];refine Prod.ext ?_ ?_
 .cases lo with
  |none=>rfl
  |some v=>exact MB v n 0
 .cases hi with
  |none=>rfl
  |some v=>exact MB v n n
theorem KP(i j:Nat):Builtin.Slice.slicePlaces (i:Int) (j:Int) 1=j - i:=by
 unfold Builtin.Slice.slicePlaces;have h1:(1:Int) > 0:=by lia
 simp only[h1,if_true,Int.ediv_one];split<;>lia
theorem Gi{o:Option Int}{Q:Option Int->Shared->Prop}(p:IsPart v o)(h:Q o s):wpAny (model prog w) A (Builtin.Slice.slicePartIndex v) Q E s:=by
 cases p with
 |none=>exact slicePart_none h
 |int i t=>exact slicePart_int h
variable{sl:Addr}{vl vu:Value}
theorem CM{lo hi:Option Int}{n:Nat}{Q:Int×Int×Nat->Shared->Prop}(hs:s.heap.IsSliceOf sl vl vu .none)(c:IsPart vl lo)(pu:IsPart vu hi)
 (h:Q (((BD n 0 lo:Nat):Int),1,BD n n hi-BD n 0 lo) s):wpAny (model prog w) A (Builtin.Slice.sliceApplied (.ref sl) (pure (n:Int))) Q E s:=by
 rintro⟨os,a,d,b⟩:id hs;unfold Builtin.Slice.sliceApplied Builtin.Slice.sliceFields;refine wB (wB (wpAny_field a b (x:=vl) rfl (wB (wpAny_field a b (x:=vu) rfl (wB (wpAny_field a b (x:=.none) rfl (wpAny_pure ?_)))))));refine wB (slicePart_none ?_);show wpAny _ _ (if((1:Int) == 0)=true then _ else _) _ _ s;rw[iN (by decide)];refine wB (Gi c (wB (Gi pu (wB (wpAny_pure ?_)))));show wpAny _ _ (match Builtin.Slice.sliceAdjust lo hi 1 (n:Int)with|(lo,hi)=>pure (lo,(1:Int),Builtin.Slice.slicePlaces lo hi 1)) _ _ s;rw[LL lo hi n];show wpAny _ _ (pure (((BD n 0 lo:Nat):Int),(1:Int),Builtin.Slice.slicePlaces ((BD n 0 lo:Nat):Int) ((BD n n hi:Nat):Int) 1)) _ _ s;rw[KP];exact wpAny_pure h
theorem ON(xs:Array Value)(i k:Nat):((List.range k).filterMap λ(m:Nat)=>xs[((i:Int) + (m:Int) * 1).toNat]?).toArray=((xs.toList.drop i).take k).toArray:=by
 have e:(λ(m:Nat)=>xs[((i:Int) + (m:Int) * 1).toNat]?)=λm=>xs[i + m]? :=by
  funext m
  have:((i:Int)+(m:Int)*1).toNat=i+m:=by lia
  rw[this]
 rw[e];have:=pick_run xs i k;rw[List.filterMap_map]at this;have e2:((λx=>xs[x]?) ∘ λx=>i+x)=λm=>xs[i+m]? :=rfl
 rw[e2]at this;rw[this]
theorem Ew{items:Array Value}{lo hi:Option Int}{Q:Va}(b:IsTup s.heap t items)(hs:s.heap.IsSliceOf sl vl vu .none)(g:IsPart vl lo)(pu:IsPart vu hi)
 (hw:¬(BD items.size 0 lo=0/\BD items.size items.size hi=items.size))
 (h:Q (.ref s.heap.objs.size) {s with heap:=s.heap.push {cls:=.type "tuple",data:=.seq ((items.toList.drop (BD items.size 0 lo)).take (BD items.size items.size hi-BD items.size 0 lo)).toArray}})
 (hsz:items.size<=sizeLine):wpAny (model prog w) A (getItem (.ref t) (.ref sl)) Q E s:=by
 have a:sizeOk (.seq ((items.toList.drop (BD items.size 0 lo)).take (BD items.size items.size hi - BD items.size 0 lo)).toArray):=by
  show((items.toList.drop (BD items.size 0 lo)).take (BD items.size items.size hi-BD items.size 0 lo)).toArray.size<=sizeLine;rw[size_toArray,length_take,length_drop,Array.length_toList]
  lia
 have l:BD items.size items.size hi<=items.size:=VH _ _ (Nat.le_refl _) hi;rintro⟨os,c,e,i⟩:id hs;have f:s.TypeIs (.ref sl) "slice":=#[os,c,e];unfold getItem
 try with_reducible refine wpAny_holding ?_
 first|refine wB (wpAny_pure ?_)|skip
 refine wB (wpAny_sequenceKey b.typeIs (by decide) ?_)
 refine wB (wpAny_callSpecial?_slot (name:=Str.ofString "__getitem__") b.typeIs PyProof.Rows.slot_tuple_getitem
  (wpAny_call_entry PyProof.Rows.slot_tuple_getitem b.typeIs entry_tuple_getitem ?_ (args_tuple_getitem _ _)))
 show wpAny _ _ (Builtin.Tuple.tupleItemsOf (.ref t) >>= _) _ _ s;refine wB (tupleItemsOf_ b ?_);refine wB (wpAny_typeOf f ?_);rw[iP (by decide)];refine wB (CM hs g pu ?_)
 have d:¬((((BD items.size 0 lo:Nat):Int) == 0 && (1:Int) == 1 && (BD items.size items.size hi - BD items.size 0 lo) == items.size)=true):=by
  intro q;rw[bA,bA]at q;have k:((BD items.size 0 lo:Nat):Int)=0:=eq_of_beq q.1.1;have j:BD items.size items.size hi-BD items.size 0 lo=items.size:=eq_of_beq q.2;exact hw #[by lia,by lia]
 show wpAny _ _ (if(((BD items.size 0 lo:Nat):Int) == 0 && (1:Int) == 1 && (BD items.size items.size hi-BD items.size 0 lo) == items.size)=true then _ else _) _ _ s;rw[iN d,ON]
 first
  |exact wB (m:=Builtin.Tuple.tupleExact _) (wpAny_newObj_type (wpAny_pure #[_,rfl,wpAny_pure h]) a)
  |exact wB (m:=Builtin.Tuple.tupleExact _) (wpAny_newObj_type (wB (wpAny_pure (wpAny_pure #[_,rfl,wpAny_pure h]))) a)
  |exact wB (wB (m:=Builtin.Tuple.tupleExact _) (wpAny_newObj_type (wpAny_pure (wpAny_pure #[_,rfl,wpAny_pure h])) a))
  |exact wB (wB (m:=Builtin.Tuple.tupleExact _) (wpAny_newObj_type (wpAny_pure #[_,rfl,wpAny_pure h]) a))
end
end HT
namespace L2
open PySem PySem.Spec PyProof.Rows
abbrev TO:=St->Hp->(Option Int->Hp->Prop)->Prop
def PO(X:Cx)(e:Option Expr)(t:TO):Prop:=
 ∀ (p0:Oa) (s:Shared) (Y:St) (H:Hp) (Q:Option Int->Hp->Prop),∅->t Y H Q->
   (X|||(evalPart e X.env)) (λu s'=>∃o H',Inv X p0 Y H' s'/\IsPart u o/\Q o H') X.xe s
def Il:TO:=λ_ H Q=>Q none H
def Jr(t:TE):TO:=λY H Q=>t Y H λx H1=>∃i,x= .int i/\Q (some i) H1
section
variable{X:Cx}{e:Expr}{te:TE}{lo hi:Option Expr}{tl th:TO}{pos p2:Pos}
theorem Md:PO X none Il:=by
 intro p0 s Y H Q I h;rw[evalPart_none];exact wpAny_pure #[none,H,I,.none,h]
theorem G0(h:PE X e te):PO X (some e) (Jr te):=by
 intro p0 s Y H Q I hw;rw[evalPart_some];refine AS (h p0 s Y H _ I hw) λu s1 ⟨x,H1,c,a,b⟩=>?_
 rintro⟨i,rfl,q⟩:b;rintro⟨t,rfl⟩:a;exact#[some i,H1,c,.int i t,q]
def Xv(X:Cx)(r:V->Option Int->Option Int->Hp->VK->Prop):Prop:=
 ∀ (p0:Oa) (s:Shared) (Y:St) (H:Hp) (x:V) (v vl vu:Value) (lo hi:Option Int) (sl:Addr) (Q:VK),∅->RelV x v->s.heap.IsSliceOf sl vl vu .none->IsPart vl lo->IsPart vu hi->r x lo hi H Q->
   ∃T id,typeLookup (.type T) "__getitem__"=pure (some (.builtin id))/\s.TypeIs v T/\(X|||(getItem v (.ref sl))) (EP X p0 Y Q) X.xe s
def ah(r:V->Option Int->Option Int->Hp->VK->Prop)(te:TE)(tl th:TO):TE:=λY H Q=>te Y H λx H1=>tl Y H1 λl H2=>th Y H2 λu H3=>r x l u H3 Q
theorem Gu{r:V->Option Int->Option Int->Hp->VK->Prop}(m:Xv X r)(he:PE X e te)(hl:PO X lo tl)(j:PO X hi th):PE X (.Subscript e (.Slice lo hi none p2) pos) (ah r te tl th):=by
 intro p0 s Y H Q I h;refine Subscript_ (AS (he p0 s Y H _ I h) λv s1 ⟨x,H1,y,c,g⟩=>?_);refine wpAny_Slice (AS (hl p0 s1 Y H1 _ y g) λvl s2 ⟨l,H2,w,i,f⟩=>AS (j p0 s2 Y H2 _ w f) λvu s3 ⟨u,a,t,pu,d⟩=>?_);rw[evalPart_none];refine wpAny_pure ?_;have p:Inv X p0 Y a {s3 with heap:=s3.heap.push {cls:=.type "slice",data:=.fields [vl,vu,.none].toArray}}:=t.kept (t':=s3.toks) λb z q=>gP q
 rintro⟨T,id,o,k,n⟩:m p0 {s3 with heap:=s3.heap.push {cls:=.type "slice",data:=.fields [vl,vu,.none].toArray}} Y a x v vl vu l u s3.heap.objs.size Q p c (Heap.IsSliceOf.new ..) i pu d;show (X|||(subscriptTail e (.Slice lo hi none p2) v (.ref s3.heap.objs.size))) (EP X p0 Y Q) X.xe {s3 with heap:=s3.heap.push {cls:=.type "slice",data:=.fields [vl,vu,.none].toArray}};exact tail_any (ops:=[.ref s3.heap.objs.size,v]) k o n (by with_unfolding_all rfl)
def Kb(xs:List V)(lo hi:Option Int):List V:=(xs.drop (HT.BD xs.length 0 lo)).take (HT.BD xs.length xs.length hi-HT.BD xs.length 0 lo)
theorem FE(xs:List V)(lo hi:Option Int):(Kb xs lo hi).length<=xs.length:=by
 unfold Kb;rw[length_take,length_drop]
 lia
def aU(K:Frag):V->Option Int->Option Int->Hp->VK->Prop:=λx lo hi H Q=>∃a xs,x= .ref a/\D2 K H a xs/\
 ¬(HT.BD xs.length 0 lo=0/\HT.BD xs.length xs.length hi=xs.length)/\∀p,H p=none->Q (.ref p) (upd H p (.tup (Kb xs lo hi)))
theorem Vu:Xv X (aU X.K):=by
 intro p0 s Y H x v vl vu lo hi sl Q I d hs f pu h;rintro⟨a,xs,rfl,g,hw,q⟩:h;cases d;rintro⟨its,r,c,hz⟩:I.tuple g;have hlen:its.toArray.size=xs.length:=by rw[size_toArray];exact r.length.symm
 refine#["tuple",_,PyProof.Rows.slot_tuple_getitem.lookup,c.typeIs,?_];refine HT.Ew c hs f pu (by rw[hlen];exact hw) ?_ (by rw[hlen];exact hz);rw[hlen];refine#[.ref s.heap.objs.size,_,I.laid (t':=s.toks) (o:=.tup (Kb xs lo hi)) (λb i q=>gP q) (Nat.le_refl _) ?_,rfl,q _ (I.Aj.fresh (Nat.le_refl _))];exact#[Nat.le_trans (FE xs lo hi) hz,_,(r.drop (HT.BD xs.length 0 lo)).take (HT.BD xs.length xs.length hi-HT.BD xs.length 0 lo),IsTup.new _ _]
end
def IK(n:Nat)(i:Int):Option Nat:=if 0<=i then(if i < n then some i.toNat else none)else if -(n:Int)<=i then some (i+n).toNat else none
def XU{α:Type}(xs:List α)(i:Int):Option α:=(IK xs.length i).bind λj=>xs[j]?
theorem Mp{n:Nat}{j:Nat}(h:IK n i=some j):seqIndex? i n=some j/\j < n/\-(n:Int)<=i/\i < n:=by
 unfold IK at h
 by_cases h0:0<=i
 .rw[iP h0]at h
  by_cases h1:i < n
  .rw[iP h1]at h;have e:i.toNat=j:=Option.some.inj h;exact#[by rw[seqIndex_of h0 h1,e],by lia,by lia,h1]
  .rw[iN h1]at h;cases h
 .rw[iN h0]at h
  by_cases h1: -(n:Int)<=i
  .rw[iP h1]at h;have e:(i+n).toNat=j:=Option.some.inj h;exact#[by rw[seqIndex_neg (by lia) h1,e],by lia,h1,by lia]
  .rw[iN h1]at h;cases h
variable{α:Type}
theorem Jb{xs:List α}{v:α}(h:XU xs i=some v):∃j,seqIndex? i xs.length=some j/\xs[j]? =some v/\j < xs.length/\-(xs.length:Int)<=i/\i < xs.length:=by
 unfold XU at h;cases e:IK xs.length i with
 |none=>rw[e]at h;cases h
 |some j=>
   rw[e]at h;rintro⟨h1,h2,b,a⟩:Mp e;exact#[j,h1,h,h2,b,a]
def MM(b:Expr):Prop:=∀o i,subscripted b false o i=operate [o,i] (getItem o i)
def QQ(X:Cx)(r:R2):Prop:=
 ∀ (value slice:Expr) (p0:Oa) (s:Shared) (Y:St) (H:Hp) (x y:V) (v u:Value) (Q:VK),∅->RelV x v->RelV y u->r x y H Q->
   subscripted slice false v u=operate [v,u] (getItem v u)->(X|||(subscriptTail value slice v u)) (EP X p0 Y Q) X.xe s
def Xx(X:Cx)(id:String)(r:V->List V->Hp->VK->Prop):Prop:=
 ∀ (p0:Oa) (s:Shared) (Y:St) (H:Hp) (x:V) (xs:List V) (v:Value) (us:List Value) (Q:VK),∅->RelV x v->Vals xs us->r x xs H Q->
   (X|||(call (.builtin id) (v::us))) (EP X p0 Y Q) X.xe s
section
variable{X:Cx}{a b:Expr}{ta tb:TE}{pos:Pos}
theorem QQ.or{r r':R2}(h:QQ X r)(h':QQ X r'):QQ X (λx y H Q=>r x y H Q\/r' x y H Q):=by
 intro value slice p0 s Y H x y v u Q I d c q hs;rcases q with q|q
 .exact h value slice p0 s Y H x y v u Q I d c q hs
 .exact h' value slice p0 s Y H x y v u Q I d c q hs
theorem Z0{r:R2}(e:QQ X r)(g:PE X a ta)(f:PE X b tb)(hs:MM b):PE X (.Subscript a b pos) (Vi r ta tb):=by
 intro p0 s Y H Q I h;exact Subscript_ (Xt g f I h λv u s2 x y H2 i d c q=>e a b p0 s2 Y H2 x y v u Q i d c q (hs _ _))
def YT(K:Frag):R2:=λx y H Q=>∃p xs i v,x= .ref p/\y= .int i/\DP K H p xs/\XU xs i=some v/\Q v H
def YR(K:Frag):R2:=λx y H Q=>∃p xs i v,x= .ref p/\y= .int i/\D2 K H p xs/\XU xs i=some v/\Q v H
def YS:R2:=λx y H Q=>∃z i c,x= .str z/\y= .int i/\z.length<=sizeLine/\XU z.cps.toList i=some c/\Q (.str #[[c].toArray]) H
theorem SR:QQ X (YT X.K):=by
 intro value slice p0 s Y H x y v u Q I k g h hs;rintro⟨p,xs,i,z,rfl,rfl,hq,he,q⟩:h;cases k;rintro⟨t,rfl⟩:g;rintro⟨its,r,d,hz⟩:I.list hq;rintro⟨j,h1,h2,o,m,l⟩:Jb he;rintro⟨w,f,c⟩:r.get h2;have hl:=r.length;have n:=D8;have fin:EP X p0 Y Q w s:=#[z,H,I,c,q]
 by_cases h0:0<=i
 .have e:i.toNat=j:=by
   rw[seqIndex_of h0 l]at h1;exact Option.some.inj h1
  exact item_listR d.isList h0 (by lia) (by rw[e];simpa using f) fin hs
 .have e:(i + (its.toArray.size:Int)).toNat=j:=by
   rw[seqIndex_neg (by lia) m]at h1;rw[size_toArray,<-hl];exact Option.some.inj h1
  exact subscriptTail_builtinR (x:=w) d.isList.typeIs slot_list_getitem.lookup
   (wpAny_getItem_list_neg (Q:=λr s'=>r=w/\EP X p0 Y Q r s') d.isList (by lia) (by rw[size_toArray]<;>lia) (by lia) (by rw[e];simpa using f) #[rfl,fin]) hs
theorem WU:QQ X (YR X.K):=by
 intro value slice p0 s Y H x y v u Q I f e h hs;rintro⟨p,xs,i,z,rfl,rfl,hq,he,q⟩:h;cases f;rintro⟨t,rfl⟩:e;rintro⟨its,r,d,hz⟩:I.tuple hq;rintro⟨j,h1,h2,n,m,l⟩:Jb he;rintro⟨w,g,c⟩:r.get h2;have hl:=r.length;have k:=D8;have fin:EP X p0 Y Q w s:=#[z,H,I,c,q]
 exact subscriptTail_builtinR (x:=w) d.typeIs slot_tuple_getitem.lookup
  (getItem_tuple (j:=j) (Q:=λr s'=>r=w/\EP X p0 Y Q r s') d (by lia) (by lia) (by rw[size_toArray,<-hl];exact h1) (by simpa using g) #[rfl,fin]) hs
theorem WV:QQ X YS:=by
 intro value slice p0 s Y H x y v u Q I e d h hs;rintro⟨z,i,c,rfl,rfl,hz,he,q⟩:h;rintro⟨t,rfl⟩:e;rintro⟨t',rfl⟩:d;rintro⟨j,h1,h2,l,g,f⟩:Jb he;have hl:z.cps.toList.length=z.length:=by simp[Str.length]
 rw[hl]at h1 g f;have k:=D8
 exact tail_any (typeIs_str s z t) slot_str_getitem.lookup (getItem_str (c:=c) (by
  have e1:decide (i < -(2 ^ 63:Int))=false:=dF (by lia);have e2:decide (i≥2 ^ 63)=false:=dF (by lia)
  rw[e1,e2,Bool.or_false]) (by rw[h1];simpa using h2) #[.str #[[c].toArray],H,I.tok _,#[_,rfl],q]) hs
def eR(K:Frag):R2:=λx y H Q=>YT K x y H Q\/YR K x y H Q\/YS x y H Q
theorem WW:QQ X (eR X.K):=SR.or (WU.or WV)
theorem L4(its:List Value)(n j:Nat)(u:Value):Obj.mapSeq (·.setIfInBounds j u) {cls:=.type "list",data:=.seq its.toArray n}={cls:=.type "list",data:=.seq (its.set j u).toArray n}:=by
 simp[Obj.mapSeq]
variable{p0:Oa}{H:Hp}{s:Shared}
theorem Inv.lst{Y:St}{xs:List V}(I:∅)(h:H p=some (.lst xs)):
 ∃(its:List Value) (n:Nat),Vals xs its/\s.heap.get? p=some {cls:=.type "list",data:=.seq its.toArray n}/\xs.length<=sizeLine:=by
 rintro⟨z,its,n,r,e⟩:I.Aj p _ h;exact#[its,n,r,e,z]
theorem Inv.WG{Y:St}{xs ys:List V}{its its':List Value}{n c:Nat}{f:Obj->Obj}(I:∅)(h:H p=some (.lst xs))
 (d:s.heap.get? p=some {cls:=.type "list",data:=.seq its.toArray n})(hf:f {cls:=.type "list",data:=.seq its.toArray n}={cls:=.type "list",data:=.seq its'.toArray c})(r:Vals ys its')(hz:ys.length<=sizeLine)(t:Nat):
 Inv X p0 Y (upd H p (.lst ys)) {s with heap:=s.heap.update p f,toks:=t}:=by
 have e:(s.heap.update p f).get? p=some {cls:=.type "list",data:=.seq its'.toArray c}:=by
  rw[Heap.get?_update_self f d (by rw[hf]<;>rfl),hf]
 refine I.write (x:=p) (e:=p) (by rw[h];trivial) (.inl rfl) (λb u g q=>(Heap.get?_update_other _ _ (Ne.symm g)).trans q) #[_,e] ?_;exact#[hz,its',c,r,e]
def YO:V->V->V->Hp->(Hp->Prop)->Prop:=λo i v H Q=>∃p xs k j,o= .ref p/\i= .int k/\H p=some (.lst xs)/\IK xs.length k=some j/\Q (upd H p (.lst (xs.set j v)))
theorem set_list:TV X YO:=by
 intro p0 s Y H o i v z A u Q I w x m h;rintro⟨p,xs,k,j,rfl,rfl,e,y,q⟩:h;cases w;rintro⟨t,rfl⟩:x;rintro⟨its,n,r,c,hz⟩:I.lst e;rintro⟨h1,h2,g,f⟩:Mp y;have hl:=r.length;have B:=D8
 have l:Inv X p0 Y (upd H p (.lst (xs.set j v))) {s with heap:=s.heap.update p (Obj.mapSeq (·.setIfInBounds j u))}:=
  I.WG e c (L4 its n j u) (r.set m j) (by rw[length_set];exact hz) s.toks
 by_cases h0:0<=k
 .have d:k.toNat=j:=by
   rw[seqIndex_of h0 f]at h1;exact Option.some.inj h1
  exact PySem.W.ki_setAt c h0 (by lia) (by rw[size_toArray,<-hl];exact f) (by rw[d];exact#[_,l,q])
 .have d:(k + (its.toArray.size:Int)).toNat=j:=by
   rw[seqIndex_neg (by lia) g]at h1;rw[size_toArray,<-hl];exact Option.some.inj h1
  exact PySem.W.ki_setBack c (by lia) (by rw[size_toArray,<-hl];exact g) (by lia) (by rw[d];exact#[_,l,q])
theorem Iu(lo hi:Option Int)(n:Nat):(sliceBounds lo hi none n).1=((HT.BD n 0 lo:Nat):Int)/\(sliceBounds lo hi none n).2.1=((HT.BD n n hi:Nat):Int)/\(sliceBounds lo hi none n).2.2=1:=by
 refine#[?_,?_,rfl]
 .cases lo with
  |none=>simp[sliceBounds,HT.BD]
  |some i=>
    simp only[sliceBounds,HT.BD,Option.getD_none,show(1:Int) > 0 by decide,if_true]
    by_cases h:i < 0
    .simp only[h,if_true]<;>lia
    .simp only[h,if_false]<;>lia
 .cases hi with
  |none=>simp[sliceBounds,HT.BD]
  |some i=>
    simp only[sliceBounds,HT.BD,Option.getD_none,show(1:Int) > 0 by decide,if_true]
    by_cases h:i < 0
    .simp only[h,if_true]<;>lia
    .simp only[h,if_false]<;>lia
theorem Ha(its:List Value)(lo hi:Option Int):slicePick its.toArray lo hi none=((its.drop (HT.BD its.length 0 lo)).take (HT.BD its.length its.length hi - HT.BD its.length 0 lo)).toArray:=by
 rintro⟨h1,h2,c⟩:Iu lo hi its.toArray.size;unfold slicePick;rw[h1,h2,c];simp only[sliceRange_one,pick_run,size_toArray]<;>rfl
def aW(K:Frag):V->Option Int->Option Int->Hp->VK->Prop:=λx lo hi H Q=>∃a xs,x= .ref a/\DP K H a xs/\∀p,H p=none->Q (.ref p) (upd H p (.lst (Kb xs lo hi)))
theorem RG:Xv X (aW X.K):=by
 intro p0 s Y H x v vl vu lo hi sl Q I d hs e pu h;rintro⟨a,xs,rfl,f,q⟩:h;cases d;rintro⟨its,r,c,hz⟩:I.list f;have hlen:=r.length;refine#["list",_,slot_list_getitem.lookup,c.isList.typeIs,?_];refine wpAny_getItem_list_slice c.isList hs e pu .none (by simp) ?_ (by rw[size_toArray]<;>lia);rw[Ha,<-hlen];refine#[.ref s.heap.objs.size,_,I.laid (t':=s.toks) (o:=.lst (Kb xs lo hi)) (λb g q=>gP q) (Nat.le_refl _) ?_,rfl,q _ (I.Aj.fresh (Nat.le_refl _))];exact#[Nat.le_trans (FE xs lo hi) hz,_,0,(r.drop (HT.BD xs.length 0 lo)).take (HT.BD xs.length xs.length hi-HT.BD xs.length 0 lo),Heap.get?_push_size _ rfl]
theorem J6:Di X (.builtin "len") (λxs H Q=>∃p ys,xs=[.ref p]/\(DP X.K H p ys\/D2 X.K H p ys)/\Q (.int ys.length) H):=by
 intro p0 s Y H xs us Q I r h;rintro⟨p,ys,rfl,hq,q⟩:h;rintro⟨u,rfl,d⟩:vals1 r;cases d;have e:=D8;rcases hq with hq|hq
 .obtain⟨its,r',c,hz⟩:=I.list hq;have hlen:=r'.length;exact Calls.call_len_list c.isList (by simp only[size_toArray]<;>lia) #[.int ys.length,H,I.tok _,#[s.toks+1,by rw[size_toArray,hlen]],q]
 .obtain⟨its,r',c,hz⟩:=I.tuple hq;have hlen:=r'.length;exact len_tuple c (by simp only[size_toArray]<;>lia) #[.int ys.length,H,I.tok _,#[s.toks+1,by rw[size_toArray,hlen]],q]
theorem J5:Di X (.builtin "len") (λxs H Q=>∃z,xs=[.str z]/\z.length<=sizeLine/\Q (.int z.length) H):=by
 intro p0 s Y H xs us Q I r h;rintro⟨z,rfl,hz,q⟩:h;rintro⟨u,rfl,t,rfl⟩:vals1 r;have c:=D8;exact len_str (by lia) #[.int z.length,H,I.tok _,#[_,rfl],q]
theorem J3:Di X (.type "list") (λxs H Q=>∃p ys,xs=[.ref p]/\(DP X.K H p ys\/D2 X.K H p ys)/\∀l,H l=none->Q (.ref l) (upd H l (.lst ys))):=by
 intro p0 s Y H xs us Q I r h;rintro⟨p,ys,rfl,hq,q⟩:h;rintro⟨u,rfl,g⟩:vals1 r;cases g
 have fin:∀(its:List Value),Vals ys its->ys.length<=sizeLine->∀(h':Heap) (c':Nat),(∀b o',s.heap.get? b=some o'->h'.get? b=some o')->
  h'.get? s.heap.objs.size=some {cls:=.type "list",dict:=none,data:=.seq its.toArray c',slots:=[].toArray}->EP X p0 Y Q (.ref s.heap.objs.size) {s with heap:=h'}:=λits r' hz h' c' kp e=>
  #[.ref s.heap.objs.size,_,I.laid (t':=s.toks) kp (Nat.le_refl _) (show Br X.prog X.w _ h' _ (.lst ys)from#[hz,its,c',r',e]),rfl,q _ (I.Aj.fresh (Nat.le_refl _))]
 rcases hq with hq|hq
 .obtain⟨its,r',c,hz⟩:=I.list hq;have hlen:=r'.length;rintro⟨o,d,f,n,hd⟩:c.isList;exact call_list_seq p (.inl rfl) d f hd (λh' c' kp e=>fin its r' hz h' c' kp e) (by simp only[size_toArray]<;>lia)
 .obtain⟨its,r',c,hz⟩:=I.tuple hq;have hlen:=r'.length;rintro⟨o,d,f,n,hd⟩:c;exact call_list_seq p (.inr rfl) d f hd (λh' c' kp e=>fin its r' hz h' c' kp e) (by simp only[size_toArray]<;>lia)
theorem Hk:Di X (.type "tuple") (λxs H Q=>∃p ys,xs=[.ref p]/\((DP X.K H p ys/\∀l,H l=none->Q (.ref l) (upd H l (.tup ys)))\/(D2 X.K H p ys/\Q (.ref p) H))):=by
 intro p0 s Y H xs us Q I r h;rintro⟨p,ys,rfl,h⟩:h;rintro⟨u,rfl,f⟩:vals1 r;cases f;rcases h with⟨hq,q⟩|⟨hq,q⟩
 .obtain⟨its,r',c,hz⟩:=I.list hq;have hlen:=r'.length;refine call_tuple_list c.isList (λh' kp=>?_) (by simp only[size_toArray]<;>lia);have d:Inv X p0 Y H {s with heap:=h'}:=I.kept (t':=s.toks) kp
  have g:Inv X p0 Y (upd H h'.objs.size (.tup ys)) {s with heap:=h'.push {cls:=.type "tuple",data:=.seq its.toArray}}:=
   d.laid (t':=s.toks) (λb o e=>gP e) (Nat.le_refl _) (show Br X.prog X.w _ _ _ (.tup ys)from#[hz,its,r',IsTup.new _ _])
  exact#[.ref h'.objs.size,_,g,rfl,q _ (d.Aj.fresh (Nat.le_refl _))]
 .obtain⟨its,r',c,hz⟩:=I.tuple hq;exact call_tuple_same c #[.ref p,H,I,rfl,q]
def aJ(K:Frag)(T:String)(x:V)(H:Hp):Prop:=match x with
 |.str _=>T="str"
 |.int _=>T="int"
 | .ref p=>(T="list"/\∃xs,DP K H p xs)\/(T="tuple"/\∃o,K.lookup p=some o/\o.cls= .type "tuple"/\o.dict=none)\/
  (T="dict"/\((∃kvs,H p=some (.dK kvs))\/∃kvs,H p=some (.dT kvs)))\/(T="set"/\∃S n,H p=some (.set S n))
 |_=>False
theorem Kv{Y:St}{T:String}(I:∅)(r:RelV x v)(ty:aJ X.K T x H):
 s.TypeIs v T/\∀a,v= .ref a->∃g,s.heap.get? a=some g/\g.dict=none:=by
 cases x with
 |str z=>
   rintro⟨t,rfl⟩:r;cases (show T="str" from ty);exact#[typeIs_str s z t,λ_ e=>nomatch e]
 |int i=>
   rintro⟨t,rfl⟩:r;cases (show T="int" from ty);exact#[typeIs_int s i t,λ_ e=>nomatch e]
 |ref p =>
   cases r;rcases ty with⟨rfl,xs,hq⟩|⟨rfl,o,d,h,hd⟩|⟨rfl,d⟩|⟨rfl,S,n,d⟩
   .obtain⟨its,_,f,_⟩:=I.list hq;refine#[f.isList.typeIs,λa e=>?_];cases e;rintro⟨o,n,e,c,hd,_⟩:f;exact#[o,e,hd]
   .refine#[#[o,I.GC p o d,h],λa e=>?_];cases e;exact#[o,I.GC _ o d,hd]
   .have z:∃o,s.heap.get? p=some o/\o.ExactDict:=by
     rcases d with⟨kvs,d⟩|⟨kvs,d⟩
     .obtain⟨_,_,_,_,o,_,_,e,ex,_⟩:=I.Aj p _ d;exact#[o,e,ex]
     .obtain⟨_,_,_,_,o,_,_,e,ex,_⟩:=I.Aj p _ d;exact#[o,e,ex]
    rintro⟨o,e,ex⟩:z;refine#[#[o,e,ex.1],λa e2=>?_];cases e2;exact#[o,e,ex.2.1]
   .obtain⟨o,_,_,_,e,ex,_⟩:=I.Aj p _ d;refine#[#[o,e,ex.1],λa e2=>?_];cases e2;exact#[o,e,ex.2.1]
 |_=>exact False.elim ty
def Vl(K:Frag)(T:String)(r:V->List V->Hp->VK->Prop)(to:TE):TE:=λY H Q=>to Y H λx H1=>aJ K T x H1/\r x [] H1 Q
def cY(K:Frag)(T:String)(r:V->List V->Hp->VK->Prop)(to:TE)(t:TA):TE:=λY H Q=>to Y H λx H1=>aJ K T x H1/\t Y H1 λxs H2=>r x xs H2 Q
variable{o e:Expr}{es:List Expr}{to:TE}{t:TA}{name:Str}{apos cpos:Pos}{T id:String}{r:V->List V->Hp->VK->Prop}
theorem KS(k:PlainAttrs T)(slot:Slot T name id)(f:typeOf (.builtin id)=pure (.type "method_descriptor"))(hm:Xx X id r)(l:PE X o to)
 (d:attributeBase o name X.env (eval o X.env)=eval o X.env:=by rfl)(c:(apos.endLine == cpos.line)=true:=by rfl):PE X (.Call (.Attribute o name apos) [] [] cpos) (Vl X.K T r to):=by
 intro p0 s Y H Q I h;refine wpAny_Call_method0_late d c (AS (l p0 s Y H _ I h) λv s1 ⟨x,H1,i,g,ty,j⟩=>?_);rintro⟨h1,h2⟩:Kv i g ty;exact#[T,id,k,slot,f,h1,h2,Calls.callWith_builtin rfl (PySem.evalArgs_none (hm p0 s1 Y H1 x [] v [] Q i g .nil j))]
theorem Uu(q:PlainAttrs T)(slot:Slot T name id)(i:typeOf (.builtin id)=pure (.type "method_descriptor"))(hm:Xx X id r)(u:PE X o to)(w:PA X (e::es) t)
 (f:attributeBase o name X.env (eval o X.env)=eval o X.env:=by rfl)
 (g:((backTo cpos (starEach (e::es) X.env)).all (λx=>!x.1) && (backToKw cpos (keywordEach [] X.env)).all (λx=>x.1.isSome)
  && decide ((e::es).length+([]:List Keyword).length+(if([]:List Keyword).isEmpty then 0 else 1) < 30))=true:=by rfl)
 (d:(apos.endLine == cpos.line)=true:=by rfl)(hs:starEach (e::es) X.env=(false,eval e X.env)::starEach es X.env:=by rfl)(c:(backTo cpos (starEach es X.env)).any (·.1)=false:=by rfl):
 PE X (.Call (.Attribute o name apos) (e::es) [] cpos) (cY X.K T r to t):=by
 intro p0 s Y H Q I h;refine wpAny_Call_method_late f g d rfl (AS (u p0 s Y H _ I h) λv s1 ⟨x,H1,l,j,ty,p⟩=>?_);rintro⟨h1,h2⟩:Kv l j ty;refine#[T,id,q,slot,i,h1,h2,?_];have k:=w cpos p0 s1 Y H1 _ l p;rw[hs]at k ⊢;refine Calls.callWith_builtin (by show(false || (backTo cpos (starEach es X.env)).any (·.1))=false;rw[c]<;>rfl) (Calls.evalArgs_plain ?_);exact AS k λus s2 ⟨vs,H2,y,m,n⟩=>hm p0 s2 Y H2 x vs v us Q y j m n
end
def cC(X:Cx)(id:String)(r:V->List V->Hp->VK->Prop):Prop:=
 ∀ (p0:Oa) (s:Shared) (Y:St) (H:Hp) (x:V) (xs:List V) (v:Value) (us:List Value) (Q:VK),∅->RelV x v->Vals xs us->r x xs H Q->
   (X|||(call (.builtin id) (v::us))) (EP X p0 Y Q) X.xe s
theorem Vals.one:∀{x:V} {us:List Value},Vals [x] us->∃u,us=[u]/\RelV x u
 |_,_,.cons r .nil=>#[_,rfl,r]
theorem Vals.two:∀{x y:V} {us:List Value},Vals [x,y] us->∃u v,us=[u,v]/\RelV x u/\RelV y v
 |_,_,_,.cons r (.cons q .nil)=>#[_,_,rfl,r,q]
theorem Vals.zero:∀{us:List Value},Vals [] us->us=[]
 |_,.nil=>rfl
variable{us:List Value}
theorem Vals.dropLast{xs:List V}(h:Vals xs us):Vals xs.dropLast us.dropLast:=by
 induction h with
 |nil=>exact .nil
 |cons r t a=>
   cases t with
   |nil=>exact .nil
   |cons q t'=>exact .cons r a
theorem Vals.reverse{xs:List V}(h:Vals xs us):Vals xs.reverse us.reverse:=by
 induction h with
 |nil=>exact .nil
 |cons r t a=>rw[reverse_cons,reverse_cons];exact Vals.append a (.cons r .nil)
theorem Lx(l:List α):l.eraseIdx (l.length - 1)=l.dropLast:=by
 induction l with
 |nil=>rfl
 |cons a r c=>
   cases r with
   |nil=>rfl
   |cons b r=>
     have e:(a::b::r).length - 1=((b::r).length - 1) + 1:=by
      have h1:(a::b::r).length=r.length+2:=rfl;have h2:(b::r).length=r.length+1:=rfl
      lia
     rw[e,List.eraseIdx_cons_succ,c]
     all_goals rfl
variable{X:Cx}{p0:Oa}{Y:St}{H:Hp}{s:Shared}{l b:Addr}{xs ys zs:List V}
variable{its:List Value}{t':Nat}
theorem Inv.Pr{its':List Value}{n:Nat}{f:Array Value->Array Value}(I:∅)(g:H l=some (.lst xs))
 (e:s.heap.get? l=some {cls:=.type "list",data:=.seq its.toArray n})(hf:f its.toArray=its'.toArray)(a:Vals ys its')(hz:ys.length<=sizeLine):
 Inv X p0 Y (upd H l (.lst ys)) {s with heap:=s.heap.update l (Obj.mapSeq f),toks:=t'}:=by
 have q:=PySem.IsL.update e f;rw[hf]at q;refine I.write (x:=l) (e:=l) (by rw[g];exact trivial) (.inl rfl) (λh u d c=>(Heap.get?_update_other s.heap (Obj.mapSeq f) (Ne.symm d)).trans c) #[_,q] ?_;exact#[hz,its',_,a,q]
theorem Inv.bI(I:∅)(a:Vals ys its)(hz:ys.length<=sizeLine):
 Inv X p0 Y (upd H s.heap.objs.size (.lst ys)) {s with heap:=s.heap.push {cls:=.type "list",data:=.seq its.toArray},toks:=t'}:=
 I.laid (λ_ _ q=>gP q) (Nat.le_refl _) #[hz,its,0,a,Heap.get?_push_size _ rfl]
theorem Inv.fresh(I:∅):H s.heap.objs.size=none:=I.Aj.fresh (Nat.le_refl _)
theorem Inv.Pq(I:∅)(a:H l=some (.lst xs)):xs.length<=sizeLine/\∃(its:List Value) (n:Nat),Vals xs its/\xs.length=its.length/\s.heap.get? l=some {cls:=.type "list",data:=.seq its.toArray n}:=by
 rintro⟨z,its,n,r,e⟩:I.Aj l _ a;exact#[z,its,n,r,r.length,e]
theorem Inv.WI(I:∅)(a:Rd H l (.lst xs)):xs.length<=sizeLine/\∃(its:List Value) (n:Nat),Vals xs its/\xs.length=its.length/\s.heap.get? l=some {cls:=.type "list",data:=.seq its.toArray n}:=by
 rintro⟨z,its,n,r,e⟩:a.ok I.Aj;exact#[z,its,n,r,r.length,e]
theorem JL{n:Nat}(h:n<=sizeLine):Builtin.List.listTooLong n=false:=by
 unfold Builtin.List.listTooLong;exact dF (by lia)
def Ma:V->List V->Hp->VK->Prop:=λx vs H Q=>∃l xs y,x= .ref l/\vs=[y]/\H l=some (.lst xs)/\xs.length < sizeLine/\Q .AG (upd H l (.lst (xs++[y])))
theorem Nf:cC X "list.append" Ma:=by
 intro p0 s Y H x vs v us Q I c d h;rintro⟨l,xs,y,rfl,rfl,a,hz,q⟩:h;cases c;rintro⟨u,rfl,f⟩:d.one;rintro⟨z,its,n,r,hl,e⟩:I.Pq a;refine call_meets F.slot_list_append #[_,e,rfl] F.entry_list_append (F.args_list_append_2 _ _) (PySem.list_append l its.toArray n u (by rw[size_toArray];lia)) #[e,?_];refine#[.AG,_,I.Pr (its':=its++[u]) a e (by simp) (r.append (.cons f .nil)) ?_,rfl,q];rw[lA,lS]
 lia
def Iw:V->List V->Hp->VK->Prop:=λx vs H Q=>∃l b xs zs,x= .ref l/\vs=[.ref b]/\H l=some (.lst xs)/\Rd H b (.lst zs)/\xs.length+zs.length<=sizeLine/\Q .AG (upd H l (.lst (xs++zs)))
theorem Nd:cC X "list.extend" Iw:=by
 intro p0 s Y H x vs v us Q I f g h;rintro⟨l,b,xs,zs,rfl,rfl,d,o,hz,q⟩:h;cases f;rintro⟨u,rfl,i⟩:g.one;cases i;rintro⟨z,its,n,r,hl,e⟩:I.Pq d;rintro⟨p,a,k,j,m,e2⟩:I.WI o;have hsz:its.toArray.size+a.toArray.size<=sizeLine:=by rw[size_toArray,size_toArray];lia
 have c:¬(!its.toArray.isEmpty && Builtin.List.listTooLong (its.toArray.size + a.toArray.size))=true:=by
  rw[JL hsz,Bool.and_false];exact Bool.false_ne_true
 refine call_meets F.slot_list_extend #[_,e,rfl] F.entry_list_extend (F.args_list_extend_2 _ _)
  (AutoSeq1.list_extend_list_list_0 l its.toArray n b a.toArray k c (by rw[size_toArray];lia) (by lia)) #[e,e2,?_]
 refine#[.AG,_,I.Pr (its':=its++a) d e (by simp) (r.append j) ?_,rfl,q];rw[lA]
 lia
def VN:V->List V->Hp->VK->Prop:=λx vs H Q=>∃l xs y,x= .ref l/\vs=[]/\H l=some (.lst xs)/\xs[xs.length-1]? =some y/\Q y (upd H l (.lst xs.dropLast))
theorem Pc:cC X "list.pop" VN:=by
 intro p0 s Y H x vs v us Q I f g h;rintro⟨l,xs,y,rfl,rfl,d,j,q⟩:h;cases f;have c:=g.zero;subst c;rintro⟨z,its,n,r,hl,e⟩:I.Pq d;rintro⟨u,k,i⟩:r.get j
 have a:its.toArray[its.toArray.size - 1]? =some u:=by
  show its.toArray[its.length-1]? =some u;rw[<-Array.getElem?_toList,<-hl];exact k
 refine call_meets F.slot_list_pop #[_,e,rfl] F.entry_list_pop (F.args_list_pop_1 _) (MeetsSeq.list_pop_last l its.toArray n u a (by rw[size_toArray];lia)) #[e,?_];refine#[y,_,I.Pr (its':=its.dropLast) d e ?_ r.dropLast ?_,i,q]
 .show its.toArray.eraseIdxIfInBounds (its.toArray.size-1)=its.dropLast.toArray;rw[size_toArray,List.eraseIdxIfInBounds_toArray,Lx]
 .rw[List.length_dropLast]
  lia
def ba:R2:=λx y H Q=>∃l b xs zs,x= .ref l/\y= .ref b/\Rd H l (.lst xs)/\Rd H b (.lst zs)/\xs.length+zs.length<=sizeLine/\∀p,H p=none->Q (.ref p) (upd H p (.lst (xs++zs)))
theorem Wm:BG X (binaryOp .Add) ba:=by
 intro p0 s Y H x y v u Q I d c h;rintro⟨l,b,xs,zs,rfl,rfl,i,j,hz,q⟩:h;cases d;cases c;rintro⟨z,its,n,r,hl,e⟩:I.WI i;rintro⟨m,a,o,f,g,e2⟩:I.WI j;refine PySem.P.add_list e e2 ?_ (by rw[size_toArray,size_toArray];lia);have k:its.toArray++a.toArray=(its++a).toArray:=by simp
 rw[k];exact#[.ref _,_,I.bI (t':=s.toks) (r.append f) (by rw[lA];lia),rfl,q _ I.fresh]
variable{a:Addr}{y v:V}{u r:Value}{o:Option V}{A:Around}{E:Va}
theorem Inv.big(I:∅):sysModules < s.heap.objs.size:=by
 have h:mainGlobals < s.heap.objs.size:=(I.mod.glob.keeps I.bk).lt;exact Nat.lt_trans (by decide) h
theorem Tn{h':Heap}{c:HO}(I:∅)(mu:ZX (H a))(hs:Heap.SameBut a s.heap h')(he:∃q,h'.get? a=some q)(new:Br X.prog X.w (upd H a c) h' a c):
 Inv X p0 Y (upd H a c) {s with heap:=h',toks:=t'}:=
 I.write (x:=a) (e:=a) mu (.inl rfl) (λb q d z=>(hs.2 b d).trans z) he new
variable{pos:Pos}
variable{d:V}
variable{kvs:List (Key×V)}
end L2
namespace Att
open PySem PySem.W PySem.Calls PyProof.Rows
variable{h:Heap}
theorem FO{P:Params}:∀(ns:List Int) (vs:List Value),WellAll P h vs (ns.map WData.int)->IntsAre vs ns:=by
 intro ns
 induction ns with
 |nil=>
   intro vs w;rw[map_nil]at w;cases w;exact .nil
 |cons n ns c=>
   intro vs w;rw[map_cons]at w;cases w with
   |cons a b=>
     cases a;exact .cons _ _ (c _ b)
theorem N3{l:OpenLaw}{n:Nat}(s:l.most=some n){P:Params}{args:List WData}{vals:List Value}
 (b:l.row.toRowW.claim.pre args=true)(g:WellAll P h vals args):
 ∃a vs ns,vals=[Value.ref a]/\args=[WData.list (ns.map WData.int)]/\h.get? a=some {cls:=.type "list",data:=.seq vs.toArray}/\IntsAre vs ns/\ns.length<=n:=by
 have i:WShape.hasAll [] args [.list .int]=true:=(pre_splitW b).1;have j:l.pre.holds [] {args:=args}=true:=(pre_splitW b).2;rintro⟨d,r,rfl,h1,h2⟩:hasAllW_cons i;obtain rfl:=hasAllW_nil h2;rintro⟨xs,rfl,t⟩:hasW_list h1;rintro⟨ns,rfl⟩:items_int t
 have hlen:ns.length<=n:=by
  unfold OpenLaw.pre at j
  have f:(WTm.not (.lt (.lit (.int (n:Int))) (.len (.arg 0)))).holds [] {args:=[.list (ns.map .int)]}=true:=by
   have f:=(holds_andW j).1;rw[s]at f;exact f
  have e:=condW_of f (w_not (w_lt w_lit (w_len_list (w_arg rfl))));rw[lM]at e;refine Nat.le_of_not_lt λq=>?_
  have o:(n:Int) < ((ns.length:Nat):Int):=by lia
  first
   |(rw[dZ o]at e;exact absurd e (by decide))
   |(simp at e;lia)
 cases g with
 |cons m k=>
   cases k;cases m with
   |list p c=>exact#[_,_,ns,rfl,rfl,p,FO ns _ c,hlen]
theorem N7(l:OpenLaw)(args:List WData):l.row.toRowW.claim.post args (.bool true) args=true:=
 postW_of (r:=l.row.toRowW) (X:=(true == true))
  (show WShape.has [] (.bool true) .bool=true by first|rfl|decide|simp[WShape.has,WShape.arms,WShape.armsAll])
  (show(WTm.eq .res (.lit (.bool true))).value [] {args:=args,res:=some (.bool true),after:=args}=some (.bool (true == true))from w_eq_bool (w_res rfl) w_lit) rfl
theorem Kn{l:OpenLaw}{n:Nat}{q:Program}{loose:List Str}{v:(Str->Option Value)->Heap->Prop}{u:World->Heap->Prop}{d:DefRec}
 (z:l.most=some n)(m:d.params.defaults=[])
 (call:∀(w:World) (s₀ b:Shared) (mg i:Str->Option Value) (fa:Addr) (o:Obj) (pm cd doc:Value) (a:Addr) (vs:List Value) (ns:List Int),
  Ground q loose [] v w s₀ mg i b.heap->u w b.heap->
  b.heap.get? fa=some o->o.data= .func (docDef d.name d.params d.body d.scope pm cd doc)->b.heap.CodeRec cd d.name->mg d.name=some (.ref fa)->
  b.heap.get? a=some {cls:=.type "list",data:=.seq vs.toArray}->IntsAre vs ns->ns.length<=n->b.gens= [].toArray->
  codeAny (model l.prog w) callerA (.call (.ref fa) #[[.ref a],[]]) (λr s'=>r= .ok (.ret (.bool true))/\OldK b.heap s'.heap/\s'.os=b.os/\AllBare s'.gens) b):
 WalkO q loose v u l.row.toRowW d [] (λf vs=>PySem.call f vs):=by
 intro w s₀ b mg i G g fa o pm cd doc E kV y hd p t k B args vals as c s x j A;obtain rfl:E= .none:=Dflts.none t m;obtain rfl:kV= .none:=Dflts.noKw t;rintro⟨a,vs,ns,rfl,rfl,e,hints,hlen⟩:N3 z c j;refine enter_call (codeAny_mono (call w s₀ b mg i fa o pm cd doc a vs ns G g y (fd_plain hd) p k e hints hlen B) λr s' hq=>?_);rintro⟨rfl,h2,D,C⟩:hq;exact#[.inl #[.bool true,.bool true,[],rfl,λ_=>rfl,.bool true,N7 l _,λ_=>#[List.Pairwise.nil,λ_ hm=>(nomatch hm)]],h2,D,C]
end Att
namespace L2
open PySem PySem.Spec PyProof.Rows
theorem Hq:∀{vs:List Value} {ns:List Int},IntsAre vs ns->Vals (ns.map V.int) vs
 |_,_,.nil=>.nil
 |_,_,.cons n t h=>.cons #[t,rfl] (Hq h)
def inClass(s:Stmt)(j:Nat):Stmt:=match s with
 |.ClassDef _ _ _ body _ _ _ _ _ _ _=>body.getD j (.Pass #[0,0,0,0])
 |_=>.Pass #[0,0,0,0]
def J2(s:Stmt):Arguments:=match s with
 |.FunctionDef _ a _ _ _ _ _ _ _ _=>a
 |_=>{posonlyargs:=[],args:=[],vararg:=none,kwonlyargs:=[],kw_defaults:=[],kwarg:=none,defaults:=[]}
def DN(s:Stmt):List Stmt:=match s with
 |.FunctionDef _ _ b _ _ _ _ _ _ _=>b
 |_=>[]
def Bp(s:Stmt):Scope:=match s with
 |.FunctionDef _ _ _ _ _ _ sc _ _ _=>sc
 |_=>{kind:=.function,names:=[],isGenerator:=false,isCoroutine:=false}
abbrev MO:XA:=λ_ _ _ _ _ _=>False
abbrev E0:XK:=λ_ _ _=>False
structure TY(K:Frag)(x qual:Str)(st:Stmt)(f:Addr)(fd:FuncData):Prop where
 ex:∃(oc:Value) (od:Option Addr) (kV doc pm:Value) (an:Option Addr) (cdv ct:Value) (osl:Array (Option Value)),
   fd=fnOf x qual (J2 st) (DN st) (Bp st) .none kV doc pm an cdv ct/\K.lookup f=some #[oc,od,.func fd,osl]/\codeIn K cdv qual=true
 kp:keepIn K (.ref f)=true
section
variable{P:Program}{w:World}{K:Frag}{mg:Str->Option Value}{base:Heap}
theorem TY.binds{qual:Str}{st:Stmt}{fd:FuncData}{ps:List Str}(F:TY K x qual st f fd)
 (h:∀(kV doc pm:Value) (an:Option Addr) (a ct:Value) (us:List Value),us.length=ps.length->bindArgs (fnOf x qual (J2 st) (DN st) (Bp st) .none kV doc pm an a ct) #[us,[]]=pure (ps.zip us)):Binds K fd ps []:=by
 rintro⟨oc,d,kV,doc,pm,an,a,ct,b,rfl,lk,c⟩:F.ex;exact .all (h kV doc pm an a ct)
end
variable{X:Cx}
def Dd(H H':Hp):Prop:=∀b o,H b=some o->H' b=some o
theorem Dd.refl(H:Hp):Dd H H:=λ_ _ h=>h
theorem Dd.trans{H H1 H2:Hp}(a:Dd H H1)(b:Dd H1 H2):Dd H H2:=λc o h=>b c o (a c o h)
def GU(cells:List (Str×Addr)):List (Str×NameKind)->List (Str×Addr)->List (Str×Addr)
 |[],cs=>cs
 |(n,k)::r,cs=>if(k == NameKind.free)=true then GU cells r ((n,(cells.lookup n).getD 0)::cs)else GU cells r cs
variable{env:Env}
theorem Mz:∀(l:List (Str×NameKind)) (cs:List (Str×Addr)),(∀x∈l,x.2= .free->∃c,env.cells.lookup x.1=some c)->
 (forIn l cs (λ(x:Str×NameKind) (r:List (Str×Addr))=>(match x with|(name,kind)=>if(kind == NameKind.free)=true then(do let a <-cellOf env name;pure (ForInStep.yield ((name,a)::r)))else pure (ForInStep.yield r):Sem _)))=(pure (GU env.cells l cs):Sem _)
 |[],cs,_=>by simp[GU]
 | (n, k)::r,cs,h=>by
   have f:=λd=>Mz r d λx i=>h x (mem_cons_of_mem _ i)
   rw[forIn_cons]
   by_cases g:k= .free
   .subst g;rintro⟨c,e⟩:h (n,.free) mS rfl
    have b:(if(NameKind.free == NameKind.free)=true then(do let a <-cellOf env n;pure (ForInStep.yield ((n,a)::cs)))else pure (ForInStep.yield cs):Sem (ForInStep (List (Str×Addr))))=pure (ForInStep.yield ((n,c)::cs)):=by
     have e:env.cells.lookup n=some c:=e;rw[iP (by rfl)];unfold cellOf;rw[e];exact pure_bind _ _
    show((if(NameKind.free == NameKind.free)=true then(do let a <-cellOf env n;pure (ForInStep.yield ((n,a)::cs)))else pure (ForInStep.yield cs):Sem (ForInStep (List (Str×Addr)))) >>= _)=_;rw[b,pure_bind];refine(f _).trans ?_;have e:env.cells.lookup n=some c:=e;show _=pure (if(NameKind.free == NameKind.free)=true then GU env.cells r ((n,(env.cells.lookup n).getD 0)::cs)else GU env.cells r cs);rw[iP (by rfl),e];rfl
   .have b:(k == NameKind.free)=false:=by simpa using g
    show((if(k == NameKind.free)=true then(do let a <-cellOf env n;pure (ForInStep.yield ((n,a)::cs)))else pure (ForInStep.yield cs):Sem (ForInStep (List (Str×Addr)))) >>= _)=_;rw[iN (by rw[b];decide),pure_bind];refine(f _).trans ?_;show _=pure (if(k == NameKind.free)=true then GU env.cells r ((n,(env.cells.lookup n).getD 0)::cs)else GU env.cells r cs);rw[iN (by rw[b];decide)]
theorem Cr{scope:Scope}(h:∀x∈scope.names,x.2= .free->∃c,env.cells.lookup x.1=some c):closureFor scope env=pure (GU env.cells scope.names []):=by
 unfold closureFor;have:=Mz (env:=env) scope.names [] h
 first
  |(simp only[bind_pure];exact this)
  |(rw[show(forIn scope.names ([]:List (Str×Addr)) _:Sem _)=_ from this];rfl)
theorem EE{cells:List (Str×Addr)}{c:Addr}:∀(l:List (Str×NameKind)) (cs:List (Str×Addr)),(∀y∈l,y.2= .free->∃c,cells.lookup y.1=some c)->(∀y d,cs.lookup y=some d->cells.lookup y=some d)->
 (GU cells l cs).lookup x=some c->cells.lookup x=some c
 |[],cs,_,f,e=>f x c e
 | (n, k)::r,cs,hl,f,e=>by
   have b:∀y∈r,y.2= .free->∃c,cells.lookup y.1=some c:=λy a=>hl y (mem_cons_of_mem _ a)
   unfold GU at e
   by_cases g:(k == NameKind.free)=true
   .rw[iP g]at e;refine EE r _ b (λy d q=>?_) e;rintro⟨d',h⟩:hl (n,k) mS (by simpa using g);rw[lookup_cons]at q;cases a:y == n with
    |true=>
      rw[a]at q;have:y=n:=by simpa using a
      subst this;dsimp only at h;rw[h]at q ⊢;exact q
    |false=>rw[a]at q;exact f y d q
   .rw[iN g]at e;exact EE r cs b f e
theorem DO{cells:List (Str×Addr)}{x:Str}:∀(l:List (Str×NameKind)) (cs:List (Str×Addr)),((∃y∈l,y.1=x/\y.2= .free)\/∃c,cs.lookup x=some c)->∃c,(GU cells l cs).lookup x=some c
 | [],cs,h=>by
   rcases h with⟨y,a,_⟩|h
   .simp at a
   .exact h
 | (n, k)::r,cs,h=>by
   unfold GU
   by_cases b:(k == NameKind.free)=true
   .rw [iP b];refine DO r _ ?_;rcases h with⟨y,a,e1,e2⟩|⟨c,h⟩
    .rcases mem_cons.mp a with q|q
     .refine .inr ?_;subst q;have e1:n=x:=e1;subst e1;exact#[_,by rw[lookup_cons];simp;rfl]
     .exact .inl #[y,q,e1,e2]
    .refine .inr ?_;rw[lookup_cons];cases a:x == n with
     |true=>exact#[_,rfl]
     |false=>exact#[c,h]
   .rw [iN b];refine DO r cs ?_;rcases h with⟨y,a,e1,e2⟩|h
    .rcases mem_cons.mp a with q|q
     .subst q;have e2:k= .free:=e2;subst e2;exact absurd rfl b
     .exact .inl #[y,q,e1,e2]
    .exact .inr h
noncomputable def AQ(X:Cx)(N:List Str)(scope:Scope)(C:Addr)(s:Shared)(H:Hp)(fp:List Addr):Cx where
 prog:=X.prog
 w:=X.w
 K:=X.K
 mg:=X.mg
 base:=X.base
 A:=X.A
 N:=N
 s₀:=s
 H₀:=H
 env:=compEnvC scope (GU X.env.cells scope.names []) C X.env
 outer:=X.stack
 stack:=X.stack
 ex:=fp
 calm:=X.calm
 fn:=λ_=>false
 pn:=[]
 xe:=λ_ _=>False
def DA(fr:List (Option Nat))(Y:St):St:=fr.map λo=>o.bind λi=>(Y[i]?).join
noncomputable def LH(N0:List Str)(sc0:Scope)(N:List Str)(scope:Scope)(fr:List (Option Nat)):Bool:=
 (scope.kind == .function) && scope.names.all (λy=>y.2 != .cell) && scope.names.all (λy=>y.2 != .local || scope.names.lookup y.1 == some .local) &&
 scope.names.all (λy=>y.2 != .free || sc0.names.lookup y.1 == some .cell || sc0.names.lookup y.1 == some .free) && (fr.length == N.length) &&
 (List.range fr.length).all λj=>match fr[j]? with
  |some (some i)=>(N[j]? == N0[i]?) && (match N[j]? with|some x=>scope.names.lookup x == some .free|none=>false)
  |_=>true
structure Df(N0:List Str)(sc0:Scope)(N:List Str)(scope:Scope)(fr:List (Option Nat)):Prop where
 kind:scope.kind= .function
 CI:∀y∈scope.names,y.2≠.cell
 own:∀y∈scope.names,y.2= .local->scope.names.lookup y.1=some .local
 free:∀y∈scope.names,y.2= .free->sc0.names.lookup y.1=some .cell\/sc0.names.lookup y.1=some .free
 len:fr.length=N.length
 F5:∀(j i:Nat),fr[j]? =some (some i)->∃x,N[j]? =some x/\N0[i]? =some x/\scope.names.lookup x=some .free
theorem Df.of{d:List Str}{a:Scope}{N:List Str}{scope:Scope}{fr:List (Option Nat)}(h:LH d a N scope fr=true):Df d a N scope fr:=by
 unfold LH at h;simp only[bA,all_eq_true]at h;rintro⟨⟨⟨⟨⟨h1,h2⟩,n⟩,m⟩,l⟩,k⟩:h;refine#[by simpa using h1,λy b=>by simpa using h2 y b,λy b e=>?_,λy b e=>?_,by simpa using l,λj i e=>?_]
 .have:=n y b;simp[e]at this;exact this
 .have:=m y b;simp[e]at this;exact this
 .have g:j < fr.length:=(List.getElem?_eq_some_iff.mp e).1;have q:=k j (mem_range.mpr g);rw[e]at q;dsimp only at q;rw[bA]at q;rintro⟨f,c⟩:q;cases ex:N[j]? with
  |none=>rw[ex]at c;cases c
  |some x=>
    rw[ex]at f c;exact#[x,rfl,(by simpa using f:some x=d[i]?).symm,by simpa using c]
theorem BJ{env:Env}:∀{names:List (Str×NameKind)} {x:Str},names.lookup x=some .free->
 (names.map λ(n,k)=>if(k^^^n&&&env)then(n,NameKind.cell)else(n,k)).lookup x=some .free\/
 (names.map λ(n,k)=>if(k^^^n&&&env)then(n,NameKind.cell)else(n,k)).lookup x=some .cell
 |[],_,h=>by simp at h
 | (n,k)::r,x,h=>by
   have c:=@BJ env r x;show List.lookup x ((if(k^^^n&&&env)=true then(n,NameKind.cell)else(n,k))::_)=_\/List.lookup x ((if(k^^^n&&&env)=true then(n,NameKind.cell)else(n,k))::_)=_;cases a:x == n with
   |true=>
     simp only[lookup_cons,a]at h;cases h
     by_cases b:(NameKind.free == NameKind.free && env.scope.kind == .function && env.kindOf n == some .cell)=true
     .rw[iP b];right;rw[lookup_cons,a]
     .rw[iN b];left;rw[lookup_cons,a]
   |false=>
     simp only[lookup_cons,a]at h
     by_cases b:(k^^^n&&&env)=true
     .rw[iP b];simp only[lookup_cons,a];exact c h
     .rw[iN b];simp only[lookup_cons,a];exact c h
theorem Eh{env:Env}:∀{names:List (Str×NameKind)} {x:Str},(∀y∈names,y.2≠.cell)->
 ((names.map λ(n,k)=>if(k^^^n&&&env)then(n,NameKind.cell)else(n,k)).lookup x=some .cell\/
 (names.map λ(n,k)=>if(k^^^n&&&env)then(n,NameKind.cell)else(n,k)).lookup x=some .free)->∃y∈names,y.1=x/\y.2= .free
 |[],_,_,h=>by simp at h
 | (n, k)::r,x,f,h=>by
   have e:=@Eh env r x λy b=>f y (mem_cons_of_mem _ b)
   have d:k≠.cell:=f (n,k) mS
   have h:List.lookup x ((if(k^^^n&&&env)=true then(n,NameKind.cell)else(n,k))::(r.map λ(n,k)=>if(k^^^n&&&env)then(n,NameKind.cell)else(n,k)))=some .cell\/
    List.lookup x ((if(k^^^n&&&env)=true then(n,NameKind.cell)else(n,k))::(r.map λ(n,k)=>if(k^^^n&&&env)then(n,NameKind.cell)else(n,k)))=some .free:=h
   by_cases c:(k^^^n&&&env)=true
   .rw [iP c]at h;cases a:x == n with
    |true=>
      have g:k= .free:=by
       simp only[bA]at c;simpa using c.1.1
      exact#[(n,k),mS,(by simpa using a:x=n).symm,g]
    |false=>
      simp only[lookup_cons,a]at h;rintro⟨y,b,q⟩:e h;exact#[y,mem_cons_of_mem _ b,q]
   .rw[iN c]at h;cases a:x == n with
    |true=>
      simp only[lookup_cons,a,Option.some.injEq]at h;refine#[(n,k),mS,(by simpa using a:x=n).symm,?_];rcases h with h|h
      .exact absurd h d
      .exact h
    |false=>
      simp only[lookup_cons,a]at h;rintro⟨y,b,q⟩:e h;exact#[y,mem_cons_of_mem _ b,q]
section
variable{p0:Oa}{Y:St}{H:Hp}{s:Shared}{N:List Str}{scope:Scope}{fr:List (Option Nat)}{fp:List Addr}{C:Addr}
theorem Qs(I:∅)(ok:Df X.N X.env.scope N scope fr)(hf:∀b∈fp,Fh X p0 H b)(B:∀b∈fp,b < s.heap.objs.size){h1:Heap}{m:Str->Option Value}{tk:Nat}(F:s.heap.objs.size<=C)(w:h1.Ns C m)
 (k:∀b o,s.heap.get? b=some o->h1.get? b=some o):Inv (AQ X N scope C s H fp) [] (DA fr Y) H {s with heap:=h1,toks:=tk}:=by
 have E:∀y∈scope.names,y.2= .free->∃c,X.env.cells.lookup y.1=some c:=λy t e=>I.ok.has y.1 (ok.free y t e)
 have F5:∀{x:Str} {c:Addr},(GU X.env.cells scope.names []).lookup x=some c->X.env.cells.lookup x=some c:=λ{x c} e=>EE scope.names [] E (λy d q=>by simp at q) e
 refine⟨#[I.ok.mod,ok.kind,I.ok.glob,I.ok.blt,F,λx y c e1 e2=>I.ok.inj x y c (F5 e1) (F5 e2),λx O=>?_,λx c D _=>?_,I.ok.hd,I.ok.frames,.inl rfl,λb g=>#[?_,λx c e=>?_],I.bs,Nat.le_trans I.ok.UT I.sz,λb o e g=>?_,λb g hs=>?_,I.stack,I.Iq],
  rfl,I.bare,Un.kept k,#[m,w,λj x v e1 e2 T=>?_],λx c e=>?_,I.Aj.fresh F,λx c e=>I.EA x c (F5 e),λp P=>?_,I.Aj.kept k,?_⟩
 .obtain⟨y,t,e1,e2⟩:=Eh (env:=X.env) ok.CI O;exact DO scope.names [] (.inl #[y,t,e1,e2])
 .exact absurd D (by show ¬(false=true);decide)
 .exact Nat.ne_of_lt (Nat.lt_of_lt_of_le (B b g) F)
 .exact(hf b g).2.2.2.2.1 x c (F5 e)
 .rcases(hf b g).2.2.2.1 with z|z
  .exact I.ok.Wz b o e z
  .exact absurd (Nat.lt_of_lt_of_le (hZ e) (Nat.le_trans I.ok.UT z)) (Nat.lt_irrefl _)
 .rcases mem_cons.mp (I.Gh b hs)with e|e
  .exact(hf b g).2.1 e
  .exact(hf b g).2.2.1 e
 .have e2:(fr.map λo=>o.bind λi=>(Y[i]?).join)[j]? =some (some v):=e2;rw[List.getElem?_map]at e2;cases J:fr[j]? with
  |none=>rw[J]at e2;cases e2
  |some o=>
    rw[J]at e2;have e2:(o.bind λi=>(Y[i]?).join)=some v:=Option.some.inj e2;cases o with
    |none=>cases e2
    |some i=>
      have e2:(Y[i]?).join=some v:=e2
      have S:Y[i]? =some (some v):=by
       cases q:Y[i]? with
       |none=>rw[q]at e2;cases e2
       |some z=>rw[q]at e2;exact congrArg some e2
      rintro⟨n,M,L,G⟩:ok.F5 j i J;have:n=x:=Option.some.inj (M.symm.trans e1);subst this;have h:=ok.free _ (PySem.mem_of_lookup G) rfl;rintro⟨m0,Q,A⟩:I.loc;rintro⟨u,r,l⟩:A i n v L S (by rcases h with z|z;exact .inr (.inl z);exact .inr (.inr z));refine#[u,r,?_];rcases l with⟨q,_⟩|⟨_,c,R,⟨oc,f,a⟩⟩
      .have q:X.env.scope.names.lookup n=some .local:=q;rcases h with z|z
       .rw[z]at q;cases q
       .rw[z]at q;cases q
      .obtain⟨c',K⟩:=DO (cells:=X.env.cells) scope.names [] (.inl #[_,PySem.mem_of_lookup G,rfl,rfl]);have:c'=c:=Option.some.inj ((F5 K).symm.trans R);subst this;refine .inr #[?_,c',K,oc,k _ _ f,a];rcases BJ (env:=X.env) G with z|z
       .exact .inr z
       .exact .inl z
 .obtain⟨v,oc,f,a⟩:=I.cell x c (F5 e);exact#[v,oc,k _ _ f,a]
 .exact absurd (show p∈([]:Oa)from P) (by simp)
 .unfold DA;rw[lM];exact ok.len
theorem Inv.Yo{xs:List V}{its:List Value}{n:Nat}(I:∅)(d:Fh X p0 H D)(hz:xs.length<=sizeLine)(r:Vals xs its)(e:s.heap.get? D=some {cls:=.type "list",data:=.seq its.toArray n}):
 Inv X p0 Y (upd H D (.lst xs)) s:=by
 have f:=d.1;have ne:∀b u,H b=some u->b≠D:=λb u q=>AI q f
 refine I.step (h':=s.heap) (g':=s.gens) (d':=s.drawn) (t':=s.toks) (ch:=[D]) (λb a=>?_) (λb o _ _ _ q _=>q) (λb o _ _ _ q _=>#[o.slots,q]) (λb o a _ q=>?_) (λb o _ q=>#[o,q])
  (λb xs q=>by rw[A4 (ne b _ q)];exact q) (λb o u q=>by rw[A4 (ne b _ q)];exact q) (λb ps q=>#[[].toArray,by rw[A4 (ne b _ q),q];simp]) (λm q=>q) (λb u q=>?_) I.bare
 .have:b=D:=by simpa using a
  subst this;exact#[d.2.2.2.1,d.2.1,d.2.2.2.2.1,d.2.2.2.2.2]
 .rw[A4 (λz=>a (by simp[z]))];exact q
 .by_cases a:b=D
  .subst a;rw[A6]at q;cases q;exact#[hz,its,n,r,e]
  .rw[A4 a]at q;exact(I.Aj b u q).H9 (λc v _ z=>z) (λc z=>by rw[A4 (ne c _ z)];exact z) λc xs z=>by rw[A4 (ne c _ z)];exact z
def CompEnd(X:Cx)(p0:Oa)(Y:St)(Q:List V->Hp->Prop)(acc:Value)(C:Addr)(r:Result)(s':Shared):Prop:=
 r= .ok .next/\∃(D:Addr) (H':Hp) (xs:List V),acc= .ref D/\H' D=none/\Inv X p0 Y (upd H' D (.lst xs)) s'/\(∃m,s'.heap.Ns C m)/\Fh X p0 (upd H' D (.lst xs)) C/\Q xs H'
end
end L2
namespace PySem
open Sem (wp)
open AutoSeq1 (wpAny_loadPart')
namespace RV
theorem N1:Slot "reversed" "__init__" "object.__init__":=
 .of (owner:="object") (n:="__init__") (by rw[typeLookup_type,builtinLookup_eq_fast];kernel_rfl) #[] #[] #[]
  (by first|exact .inl #[]|exact .inr #[]) (by rw[isSubtype_type];kernel_rfl)
theorem LJ:TypeCalled "reversed" "reversed.__new__" "object.__init__":=
 #[by decide +kernel,by decide +kernel,#[_,_,F.mro_reversed],F.made_reversed,by decide +kernel,F.sub_reversed_self,N1]
theorem Jn:typeLookup (.type "tuple") "__reversed__"=pure none:=by rw[typeLookup_type,builtinLookup_eq_fast];kernel_rfl
theorem Ip:isSubtype (.type "tuple") (.type "dict")=pure false:=by rw[isSubtype_type];kernel_rfl
theorem slot_next:Slot "reversed" "__next__" "reversed.__next__":=
 .of (owner:="reversed") (n:="__next__") (by rw[typeLookup_type,builtinLookup_eq_fast];kernel_rfl) #[] #[] #[]
  (by first|exact .inl #[]|exact .inr #[]) (by rw[isSubtype_type];kernel_rfl)
theorem entry_next:entryFor table "reversed.__next__"=some Builtin.«reversed.__next__»:=entryFor_of_tree (by kernel_rfl)
theorem Gw:Manifest.owners.lookup (String.ofList ['d','e','s','r','e','v','e','r'].reverse)=some Manifest.sig_reversed:=by kernel_rfl
theorem args_next(a:Value):argsOk "reversed.__next__" #[[a],[]]:=by
 unfold argsOk;rw[signature?_of (id:="reversed.__next__") (n:=['_','_','t','x','e','n','_','_']) (o:=['d','e','s','r','e','v','e','r']) (by kernel_rfl) Gw];kernel_rfl
theorem Ht:Slot "reversed" "__iter__" "reversed.__iter__":=
 .of (owner:="reversed") (n:="__iter__") (by rw[typeLookup_type,builtinLookup_eq_fast];kernel_rfl) #[] #[] #[]
  (by first|exact .inl #[]|exact .inr #[]) (by rw[isSubtype_type];kernel_rfl)
theorem NM(a:Value):argsOk "reversed.__iter__" #[[a],[]]:=by
 unfold argsOk;rw[signature?_of (id:="reversed.__iter__") (n:=['_','_','r','e','t','i','_','_']) (o:=['d','e','s','r','e','v','e','r']) (by kernel_rfl) Gw];kernel_rfl
theorem LB:entryFor table "reversed.__iter__"=some Builtin.«dict_keyiterator.__iter__»:=
 entryFor_alias (id':="dict_keyiterator.__iter__") (by kernel_rfl) (by first|rfl|decide +kernel|(unfold String.splitOn;simp +decide [String.splitOnAux])) #[] (by kernel_rfl)
theorem DG:Slot "reversed" "__length_hint__" "reversed.__length_hint__":=
 .of (owner:="reversed") (n:="__length_hint__") (by rw[typeLookup_type,builtinLookup_eq_fast];kernel_rfl) #[] #[] #[]
  (by first|exact .inl #[]|exact .inr #[]) (by rw[isSubtype_type];kernel_rfl)
theorem GL:entryFor table "reversed.__length_hint__"=some Builtin.«reversed.__length_hint__»:=entryFor_of_tree (by kernel_rfl)
theorem I9(a:Value):argsOk "reversed.__length_hint__" #[[a],[]]:=by
 unfold argsOk;rw[signature?_of (id:="reversed.__length_hint__") (n:=['_','_','t','n','i','h','_','h','t','g','n','e','l','_','_']) (o:=['d','e','s','r','e','v','e','r']) (by kernel_rfl) Gw];kernel_rfl
theorem P9:typeLookup (.type "reversed") "__len__"=pure none:=by rw[typeLookup_type,builtinLookup_eq_fast];kernel_rfl
end RV
def Co(t:Addr)(i:Int):Obj:={cls:=.type "reversed",data:=.fields [.ref t,rawInt i].toArray}
open Sem (wp)
open AutoSeq1 (wpAny_loadPart')
open PyProof.Rows
section
variable{prog:Program}{w:World}{A:Around}{E:Va}{s:Shared}
theorem YH{i n:Nat}(h:i < n):seqIndex? (i:Int) n=some i:=by
 have a:¬((i:Int) < 0):=by omega
 unfold seqIndex?;simp[a,h]
theorem VI{items:Array Value}(hz:(items.size:Int) < 2 ^ 63):
 Meets (Builtin.«reversed.__new__» #[[.type "reversed",.ref t],[]]) (λ_ R s=>IsTup s.heap t items/\∀tk,R (.ok (.ret (.ref s.heap.objs.size))) {s with heap:=s.heap.push (Co t ((items.size:Int)-1)),toks:=tk}):=
 .of_wp λprog w A R s h=>by
  rintro⟨c,h⟩:h;unfold Builtin.«reversed.__new__»;refine wB (wpAny_of_eq (newClass_reversed _) ?_)
  try dsimp only
  refine wB (wpAny_of_eq (a:=()) (by first|rfl|kernel_rfl) ?_);refine wB (wpAny_of_eq (a:=()) (by first|rfl|kernel_rfl) ?_)
  try dsimp only
  refine wB (wpAny_specialOf c.typeIs RV.Jn ?_)
  try dsimp only
  refine wB ?_
  wp_delta
  refine wB (wpAny_isInstance (T:="tuple") (b:=false) c.typeIs RV.Ip ?_);refine xN (by decide) ?_;refine wB (wpAny_specialOf c.typeIs F.slot_tuple_getitem.lookup ?_)
  try dsimp only
  refine wpAny_ite_split (λ_=>?_) (λd=>absurd #[] d);refine wpAny_pure ?_;refine xN (by decide) ?_;refine wB (len_tuple c hz ?_);refine wB (m:=asInt? _) (wpAny_pure ?_)
  try dsimp only
  refine wB ?_;show wpAny _ _ (newObj (.type "reversed") (.fields [.ref t,rawInt ((items.size:Int)-1)].toArray)) _ _ _;refine wpAny_newObj_type ?_ (by size_fits);exact wpAny_pure #[_,rfl,h _]
theorem Tz{items:Array Value}{Q:Va}(a:IsTup s.heap t items)(hz:(items.size:Int) < 2 ^ 63)
 (h:∀tk,Q (.ref s.heap.objs.size) {s with heap:=s.heap.push (Co t ((items.size:Int)-1)),toks:=tk}):wpAny (model prog w) A (call (.type "reversed") [.ref t]) Q E s:=
 callType_new RV.LJ (by decide) (F.typeCall_reversed_1 _) (F.newCall_reversed_1 _) (λobj=>F.args_object_init_2 obj _) F.entry_reversed_new (VI hz)
  #[a,λtk=>#[#[_,Heap.get?_push_size _ rfl,rfl],h tk]]
theorem BE(a:s.heap.get? r=some (Co t i)):s.TypeIs (.ref r) "reversed":=#[_,a,rfl]
theorem M8{Q:Va}(a:s.heap.get? r=some (Co t i))(h:Q (.ref r) s):wpAny (model prog w) A (pyIter (.ref r)) Q E s:=by
 refine wpAny_pyIter_slot (BE a) RV.Ht (wpAny_call_entry RV.Ht (BE a) RV.LB ?_ (RV.NM _));show wpAny _ _ (ret (.ref r)) _ _ s;exact wpAny_pure #[_,rfl,"reversed",_,BE a,RV.slot_next.lookup,h]
theorem RM{i:Nat}{items:Array Value}{x:Value}{Q:Option Value->Shared->Prop}(b:s.heap.get? r=some (Co t (i:Int)))(d:IsTup s.heap t items)(c:items[i]? =some x)(hz:(items.size:Int) < 2 ^ 63)
 (e:∀h' tk,h'.get? r=some (Co t ((i:Int)-1))->Heap.SameBut r s.heap h'->Q (some x) {s with heap:=h',toks:=tk}):wpAny (model prog w) A (pyNext (.ref r)) Q E s:=by
 have hi:i < items.size:=by
  rcases Nat.lt_or_ge i items.size with z|z
  .exact z
  .rw[Array.getElem?_eq_none z]at c;cases c
 unfold pyNext
 refine wB (wpAny_attempt (wpAny_callSpecial?_slot (name:=Str.ofString "__next__") (BE b) RV.slot_next
  (wpAny_call_entry RV.slot_next (BE b) RV.entry_next ?_ (RV.args_next _))))
 unfold Builtin.«reversed.__next__»;refine wB (wpAny_of_eq (a:=(Value.ref r,[])) rfl ?_)
 try dsimp only
 refine wB (wpAny_field b rfl (x:=.ref t) rfl ?_);refine wB (wpAny_field b rfl (x:=rawInt (i:Int)) rfl ?_);show wpAny _ _ (if(i:Int) < 0 then _ else _) _ _ s;rw[iN (by omega)];refine wB (wpAny_specialOf d.typeIs F.slot_tuple_getitem.lookup ?_);refine xN (by decide) ?_;refine wB (wpAny_mkInt' ?_);refine wB (wpAny_attempt (PyProof.Rows.getItem_tuple (j:=i) (x:=x) (by exact d) (by omega) (by omega) (YH hi) c ?_))
 try dsimp only
 refine wB (wpAny_field (s:={s with toks:=_}) b rfl (x:=rawInt (i:Int)) rfl ?_)
 try dsimp only
 refine wB (wpAny_setField b rfl (by simp) ?_);refine wpAny_pure #[x,rfl,wpAny_pure (e _ _ ?_ (Heap.SameBut.update ..))];exact Heap.get?_update_self _ b rfl
theorem VJ{items:Array Value}{Q:Option Value->Shared->Prop}(f:A.handled=none)(c:s.heap.get? r=some (Co t (-1)))
 (h:∀h' tk,Heap.ExtBut r s.heap h'->Q none {s with heap:=h',toks:=tk}):wpAny (model prog w) A (pyNext (.ref r)) Q E s:=by
 unfold pyNext
 refine wB (wpAny_attempt (wpAny_callSpecial?_slot (name:=Str.ofString "__next__") (BE c) RV.slot_next
  (wpAny_call_entry RV.slot_next (BE c) RV.entry_next ?_ (RV.args_next _))))
 unfold Builtin.«reversed.__next__»;refine wB (wpAny_of_eq (a:=(Value.ref r,[])) rfl ?_)
 try dsimp only
 refine wB (wpAny_field c rfl (x:=.ref t) rfl ?_);refine wB (wpAny_field c rfl (x:=rawInt (-1)) rfl ?_);show wpAny _ _ (if(-1:Int) < 0 then _ else _) _ _ s;rw[iP (by decide)];refine wB (wpAny_rule ?_);refine wB ?_
 wp_delta
 refine wB (wpAny_setField c rfl (by simp) ?_);have d:=Heap.get?_update_self (Obj.mapFields λxs=>xs.setIfInBounds 1 (rawInt (-1))) c rfl;refine wpAny_setField (s:={s with heap:=_}) d rfl (by simp) ?_;refine wB ?_;show wpAny _ _ (newExc (.type "StopIteration") [] >>= _) _ _ _;refine wB ?_;simp only[newExc,newTuple];refine wB (wpAny_newObj_type ?_ (by size_fits));refine wB (m:=firstArgMember _ _) (wpAny_of_eq (a:=Value.none) (by first|rfl|(simp only[firstArgMember];rfl)) ?_);refine wpAny_newObj_type ?_ (by size_fits);simp only[raiseNew];refine wB (wpAny_handled ?_)
 first|rw[show A.in1.handled=none from f]|rw[f]
 refine wB (wpAny_pure (wpAny_throw ?_));refine wB (wpAny_isInstance (T:="StopIteration") (b:=true) #[_,Heap.get?_push_size _ rfl,rfl] isSubtype_stop ?_);refine wpAny_pure (h _ _ ?_);refine Heap.ExtBut.push ?_ _;refine Heap.ExtBut.push ?_ _;intro b o g e;exact(Heap.get?_update_other _ _ (Ne.symm g)).trans ((Heap.get?_update_other _ _ (Ne.symm g)).trans e)
theorem RO{items:Array Value}{Q:Bool->Shared->Prop}(e:s.heap.get? r=some (Co t ((items.size:Int) - 1)))(l:IsTup s.heap t items)(hz:items.size<=sizeLine)
 (h:∀b tk,Q b {s with toks:=tk}):wpAny (model prog w) A (Builtin.List.listLengthHint (.ref r)) Q E s:=by
 have f:(items.size:Int) < 2 ^ 63:=by rw[sizeLine_eq]at hz;omega
 unfold Builtin.List.listLengthHint;refine wB (wpAny_specialOf (BE e) RV.P9 ?_)
 try dsimp only
 refine wpAny_ite_split (λc=>absurd c #[]) (λ_=>?_);refine xN (by decide) ?_;refine wB (wpAny_specialOf (BE e) RV.DG.lookup ?_);generalize i:("reversed.__length_hint__":String)=k
 try dsimp only
 rw[show splitId k=some ("reversed","__length_hint__")from by subst i;decide +kernel];subst i
 try dsimp only
 refine wB (wpAny_isInstance (T:="reversed") (b:=true) (BE e) F.sub_reversed_self ?_);refine xN (by decide) ?_;refine wpAny_ite_split (λc=>absurd c #[]) (λ_=>?_);refine wB (wpAny_rule ?_);refine wB (wpAny_of_eq (RV.DG.bind _) ?_)
 try dsimp only
 refine wB (wpAny_attempt (wpAny_call_entry RV.DG (BE e) RV.GL ?_ (RV.I9 _)));unfold Builtin.«reversed.__length_hint__»;refine wB (wpAny_of_eq (a:=Value.ref r) rfl ?_);refine wB (wpAny_field e rfl (x:=.ref t) rfl ?_);refine wpAny_ite_split (λc=>absurd c (by intro z;cases z)) (λ_=>?_);refine wB (len_tuple l f ?_);refine wB (m:=asInt? _) (wpAny_pure ?_)
 try dsimp only
 refine wB (wpAny_field (s:={s with toks:=_}) e rfl (x:=rawInt ((items.size:Int)-1)) rfl ?_);show wpAny _ _ (if(items.size:Int) < (items.size:Int)-1+1 then _ else _) _ _ _;rw[iN (by omega)];refine wB (wpAny_mkInt' (wpAny_pure #[_,rfl,?_]))
 try dsimp only
 refine wB (m:=asInt? _) (wpAny_pure ?_)
 try dsimp only
 have e1:(items.size:Int)-1+1=(items.size:Int):=by omega
 rw[e1]
 have j:Builtin.List.listFitsIndex (items.size:Int)=true:=by
  have h2:(-(2 ^ 63):Int)<=(items.size:Int):=by omega
  simp only[Builtin.List.listFitsIndex,bA,decide_eq_true_eq];exact#[h2,f]
 have g:¬((items.size:Int) < 0):=by omega
 have d:Builtin.List.listTooLong ((items.size:Int).toNat)=false:=by
  rw[Int.toNat_natCast];unfold Builtin.List.listTooLong;exact dF (by omega)
 simp only[j,g,d,Bool.not_true,Bool.false_eq_true,if_false];exact wpAny_pure (h _ _)
theorem Oz(p:A.handled=none)(I t:Addr)(g:t≠I)(items:Array Value)(hz:(items.size:Int) < 2 ^ 63):
 Walks prog w A I [I,t] [I] items.size (λi v=>items[items.size-1-i]? =some v) (λi h=>i<=items.size/\h.get? I=some (Co t ((items.size:Int)-1-(i:Int)))/\IsTup h t items) where
 sub:=λb c=>by simp at c;simp[c]
 frame:=λ_ _ _ x m=>#[x.1,m I (by simp) _ x.2.1,let⟨o,n,q⟩:=x.2.2;#[o,m t (by simp) o n,q]]
 item:=λi s Q E hi x f=>by
  have e:(items.size:Int)-1-(i:Int)=((items.size-1-i:Nat):Int):=by omega
  have hit:=x.2.1;rw[e]at hit;have l:items[items.size-1-i]? =some (items[items.size-1-i]'(by omega)):=Array.getElem?_eq_getElem (by omega);refine RM hit x.2.2 l hz λh' tk a d=>?_
  have e2:((items.size-1-i:Nat):Int)-1=(items.size:Int)-1-((i+1:Nat):Int):=by omega
  rw[e2]at a;exact f _ h' tk l #[hi,a,x.2.2.extBut d.extBut g] λb o c k=>d.extBut b o (λh=>c (by simp[h])) k
 done:=λs Q E x f=>by
  have e:(items.size:Int)-1-(items.size:Int)= -1:=by omega
  have hit:=x.2.1;rw[e]at hit;exact VJ (items:=items) p hit λh' tk j=>f h' tk λb o c k=>j b o (λh=>c (by simp[h])) k
 self:=λ_ _ _ _ x f=>M8 x.2.1 f
theorem N4{R:Result->Shared->Prop}{items:Array Value}(L:A.handled=none)(n:s.heap.get? r=some (Co t ((items.size:Int) - 1)))(z:IsTup s.heap t items)(hz:items.size<=sizeLine)(B:t≠r)(S:Addr)(l:S≠r)(x:S≠t)(res:Value)(c₀:Nat)
 (I:s.heap.get? S=some {cls:=.type "list",data:=.seq [].toArray c₀})
 (M:∀h' tk a c',(∀b o,b≠S->b≠r->s.heap.get? b=some o->h'.get? b=some o)->h'.get? S=some {cls:=.type "list",dict:=none,data:=.seq a c',slots:=[].toArray}->ItemsOf (λi v=>items[items.size-1-i]? =some v) a items.size->R (.ok (.ret res)) {s with heap:=h',toks:=tk}):
 wpAny (model prog w) A.in1 (Builtin.List.listExtendWith (.ref S) (.ref r) res)
  (λfin s'=>match fin with| .done f=>R (.ok f) s'| .again c'=>c'.quiet=true/\codeAny (model prog w) A c' R s') (λe s'=>R (.error e) s') s:=by
 have y:(items.size:Int) < 2 ^ 63:=by rw[sizeLine_eq]at hz;omega
 have G:S∉[r,t]:=by simp only[mem_cons,not_mem_nil,or_false,not_or];exact#[l,x]
 have W:=Oz (prog:=prog) (w:=w) (A:=A.in1) L r t B items y
 have key:∀(h:Heap) (c₁ tk:Nat),(h.get? r=some (Co t ((items.size:Int) - 1))/\IsTup h t items)->(∀b o,b≠S->s.heap.get? b=some o->h.get? b=some o)->
  h.get? S=some {cls:=.type "list",data:=.seq [].toArray c₁}->codeAny (model prog w) A (.builtin "list.extend.loop" #[[.ref S,.ref r,res],[]]) R {s with heap:=h,toks:=tk}:=by
  intro h c₁ tk m K k;refine codeAny_extend_loopS W.toS hz S G res items.size 0 _ [].toArray c₁ rfl (Nat.zero_le _) #[Nat.zero_le _,by simpa using m.1,m.2] k (ItemsOf.nil _) λs' a c' hm H u=>?_
  have D:=λb o (p:b≠S) (C:b≠r) (e:s.heap.get? b=some o)=>hm.heap b o (λc=>by
   rcases mem_cons.mp c with O|c
   .exact p O
   .exact C (mE c)) (K b o p e)
  rw[Moved.eq_with hm];exact M s'.heap s'.toks a c' D H u
 unfold Builtin.List.listExtendWith;refine wB (wpAny_typeOf (T:="reversed") (BE n) ?_);have h1:Builtin.List.listSameRef (.ref S) (.ref r)=false:=by simp[Builtin.List.listSameRef,l]
 have h2:(Value.type "reversed" == Value.type "list")=false:=by decide
 have N:(Value.type "reversed" == Value.type "tuple")=false:=by decide
 simp only[h1,h2,N,Bool.or_false,Bool.false_eq_true,if_false];refine wB (M8 n ?_);refine wB (wpAny_holding (RO n z hz λb tk=>?_));refine wpAny_ite_split (λ_=>?_) (λ_=>wpAny_pure #[plainId_quiet PySem.F.plain_extend_loop _,key _ c₀ _ #[n,z] (λb o _ e=>e) I]);refine wB (wpAny_rule ?_);refine wB ?_;show wpAny _ _ (updateSeq S (·.push .none) >>= λ_=>updateSeq S (·.pop)) _ _ _;refine wB (wpAny_updateSeq I rfl ?_);have d:=Heap.get?_update_self (Obj.mapSeq (·.push Value.none)) I rfl;refine wpAny_updateSeq (hz:=by seq_fits) d rfl ?_;have j:=Heap.get?_update_self (Obj.mapSeq (·.pop)) d rfl
 have g:∀b o,b≠S->s.heap.get? b=some o->((s.heap.update S (Obj.mapSeq (·.push Value.none))).update S (Obj.mapSeq (·.pop))).get? b=some o:=λb o p e=>
  (Heap.get?_update_other _ _ (Ne.symm p)).trans ((Heap.get?_update_other _ _ (Ne.symm p)).trans e)
 refine wpAny_pure #[plainId_quiet PySem.F.plain_extend_loop _,key _ _ _ #[g _ _ (Ne.symm l) n,?_] g j];rintro⟨o,J,q⟩:z;exact#[o,g _ _ (Ne.symm x) J,q]
theorem RN{R:Result->Shared->Prop}{items:Array Value}(B:A.handled=none)(x:s.heap.get? r=some (Co t ((items.size:Int) - 1)))(u:IsTup s.heap t items)(hz:items.size<=sizeLine)(l:t≠r)(S:Addr)(j:S≠r)(h:S≠t)
 (p:s.heap.get? S=some {cls:=.type "list",data:=.seq [].toArray})
 (C:∀h' tk a c',(∀b o,b≠S->b≠r->s.heap.get? b=some o->h'.get? b=some o)->h'.get? S=some {cls:=.type "list",dict:=none,data:=.seq a c',slots:=[].toArray}->ItemsOf (λi v=>items[items.size-1-i]? =some v) a items.size->R (.ok (.ret .none)) {s with heap:=h',toks:=tk}):
 wpAny (model prog w) A.in1 (Builtin.«list.__init__» #[[.ref S,.ref r],[]])
  (λfin s'=>match fin with| .done f=>R (.ok f) s'| .again c'=>c'.quiet=true/\codeAny (model prog w) A c' R s') (λe s'=>R (.error e) s') s:=by
 show wpAny _ _ (do let old <-Builtin.List.listItems (.ref S);Builtin.List.listUpdate (.ref S) (λ_=>[].toArray);letGo old.toList.reverse;Builtin.List.listExtendWith (.ref S) (.ref r) .none) _ _ s;refine wB ?_;unfold Builtin.List.listItems;refine wB (wpAny_seqItems p rfl (wpAny_pure ?_));show wpAny _ _ (updateSeq S (λ_=>[].toArray) >>= λ_=>letGo ([].toArray:Array Value).toList.reverse >>= λ_=>Builtin.List.listExtendWith (.ref S) (.ref r) .none) _ _ s;refine wB (wpAny_updateSeq p rfl ?_);have d:=Heap.get?_update_self (Obj.mapSeq (λ_=>([].toArray:Array Value))) p rfl
 have c:∀b o,b≠S->s.heap.get? b=some o->(s.heap.update S (Obj.mapSeq (λ_=>([].toArray:Array Value)))).get? b=some o:=
  λb o k e=>(Heap.get?_update_other _ _ (Ne.symm k)).trans e
 refine wB (wpAny_letGo ?_);refine N4 (s:={s with heap:=_}) B (c _ _ (Ne.symm j) x) (let⟨o,y,q⟩:=u;#[o,c _ _ (Ne.symm h) y,q]) hz l S j h .none _ d (λh' tk a c' z n g=>?_);exact C h' tk a c' (λb o k m e=>z b o k m (c b o k e)) n g
theorem RL{Q:Va}{items:Array Value}(x:A.handled=none)(n:s.heap.get? r=some (Co t ((items.size:Int) - 1)))(m:IsTup s.heap t items)(hz:items.size<=sizeLine)(j:t≠r)
 (z:∀h' tk a c',(∀b o,b≠r->s.heap.get? b=some o->h'.get? b=some o)->h'.get? s.heap.objs.size=some {cls:=.type "list",dict:=none,data:=.seq a c',slots:=[].toArray}->ItemsOf (λi v=>items[items.size-1-i]? =some v) a items.size->Q (.ref s.heap.objs.size) {s with heap:=h',toks:=tk}):
 wpAny (model prog w) A (call (.type "list") [.ref r]) Q E s:=by
 refine callType_codes (Q₁:=λobj c=>obj= .ref s.heap.objs.size/\c={s with heap:=s.heap.push {cls:=.type "list",data:=.seq [].toArray}}) PySem.F.called_list (PySem.F.typeCall_list_1 _) PySem.F.entry_list_init
  (code_list_new _ #[rfl,rfl]) λobj c d=>?_
 rintro⟨rfl,rfl⟩:d;have p:(s.heap.push {cls:=.type "list",data:=.seq [].toArray}).get? s.heap.objs.size=some {cls:=.type "list",data:=.seq [].toArray}:=Heap.get?_push_size _ rfl;have h:=hZ n;have g:t < s.heap.objs.size:=let⟨o,k,_⟩:=m;hZ k;refine#[#[_,p,rfl],PySem.F.args_list_init_2 _ _,RN (A:=A.in1) (s:={s with heap:=_}) x (gP n) (let⟨o,k,q⟩:=m;#[o,gP k,q]) hz j _ (Nat.ne_of_gt h) (Nat.ne_of_gt g) p (λh' tk a c' u l f=>?_)];exact#[rfl,z h' tk a c' (λb o y e=>u b o (Nat.ne_of_lt (hZ e)) y (gP e)) l f]
end
end PySem
namespace L2
open PySem PySem.Spec PyProof.Rows
section
variable{X:Cx}{tg e:Expr}{pos p p1 p2 p3:Pos}{ta te:TE}
def cD(K:Frag)(a:Addr)(xs:List V):It:=
 #[λi H=>i < xs.length/\DP K H a xs,λi H x H'=>H'=H/\xs[xs.length-1-i]? =some x,λi H=>xs.length<=i]
theorem O1{P:Program}{w:World}{K:Frag}{tg:Expr}(a it:Addr)(xs:List V):Turn P w K tg (cD K a xs) [it] it (λi h=>i<=xs.length/\h.IsRevIter it a ((xs.length:Int) - 1 - (i:Int))) where
 mem:=by simp
 obj:=λi h st b j=>by
  have e:b=it:=by simpa using j
  subst e;rintro⟨_,o,e,c,d⟩:st;exact#[o,e,λv z=>by rw[d]at z;cases z]
 keep:=λi h h' st k=>#[st.1,st.2.at λo e=>k it (by simp) o e]
 item:=by
  intro X m hw hK y i p0 s Y H E I hf st l;subst m hw hK;rintro⟨hi,hq⟩:l;rintro⟨its,r,p,hz⟩:I.list hq;have hlen:=r.length;have t:xs[xs.length-1-i]? =some (xs[xs.length-1-i]'(by lia)):=List.getElem?_eq_getElem (by lia);rintro⟨u,C,B⟩:r.get t;rintro⟨f0,f1,f2,q,f4,n⟩:hf it (by simp);have e1:(xs.length:Int)-1-(i:Int)=((xs.length-1-i:Nat):Int):=by lia
  have f:=st.2;rw[e1]at f;refine wpAny_pyNext_rev_item f p.isList (x:=u) (by simpa using C) λh' g A=>?_
  have e2:((xs.length-1-i:Nat):Int)-1=(xs.length:Int)-1-((i+1:Nat):Int):=by lia
  rw[e2]at g;have F:Inv X p0 Y H {s with heap:=h'}:=I.turned (t':=s.toks) (λb o j e=>(A.2 b j).trans e) f0 f1 q f4 n;rintro⟨o,e,c,d⟩:id g;exact#[u,rfl,K4 (s:={s with heap:=h'}) e c d (by decide) #[_,H,F,B,#[rfl,t],#[hi,g],λb j=>(hf b j).1]]
 done:=by
  intro X m hw hK y i p0 s Y H E I hf st l;subst m hw hK;have l:xs.length<=i:=l;have hi:i=xs.length:=Nat.le_antisymm st.1 l;rintro⟨f0,f1,f2,q,f4,n⟩:hf it (by simp);have f:=st.2;rw[show(xs.length:Int)-1-(i:Int)= -1 by lia]at f;exact wpAny_pyNext_rev_end (I.ok.hd y) f λh' D=>#[rfl,I.turned (t':=s.toks) (λb o j e=>D b o j e) f0 f1 q f4 n]
 self:=λ_ _ _ _ _ st h=>wpAny_pyIter_revIter st.2 h
def bS(K:Frag)(tl:TE):TI:=λY H R=>tl Y H λx H1=>∃a xs,x= .ref a/\DP K H1 a xs/\R (cD K a xs) H1
theorem bg{tl:TE}(k:Gl X "reversed")(hm:X.mg "reversed"=none)(hl:PE X l tl)(hs:starEach [l] X.env=[(false,eval l X.env)]:=by rfl):PI X tg (.Call (.Name "reversed" p) [l] [] pos) (bS X.K tl):=by
 intro p0 s Y H R I h;have h':Jt tl Ob Y H (λvs H1=>match vs with|[x]=>(∃a xs,x= .ref a/\DP X.K H1 a xs/\R (cD X.K a xs) H1)|_=>False):=h;refine Call_ (CJ I k hm boot_reversed (PyProof.Rows.callWith_type1 (AS (AB hl Bv hs pos p0 s Y H _ I h') λus s1 ⟨vs,H1,c,d,f⟩=>?_) hs rfl))
 match vs,d,f with
 |[x],d,f=>
   rintro⟨u,rfl,i⟩:vals1 d;rintro⟨a,xs,rfl,hq,q⟩:f;cases i;rintro⟨its,g,j,hz⟩:c.list hq;have hlen:=g.length;refine call_reversed_list j.isList ?_;have e0:(its.toArray.size:Int)-1=(xs.length:Int)-1:=by rw[size_toArray,hlen]
   rw[e0];have st:(s1.heap.push (revObj a ((xs.length:Int)-1))).IsRevIter s1.heap.objs.size a ((xs.length:Int)-1-((0:Nat):Int)):=#[_,Heap.get?_push_size _ rfl,rfl,by simp[revObj]];refine wpAny_pyIter_revIter st ?_;refine#[s1.heap.objs.size,[s1.heap.objs.size],_,_,H1,rfl,c.kept (t':=s1.toks) λb o e=>gP e,O1 a _ xs,#[Nat.zero_le _,st],λb m=>?_,q];have e:b=s1.heap.objs.size:=by simpa using m
   subst e;exact c.Lq (Nat.le_refl _) (c.Aj.fresh (Nat.le_refl _))
def eG(K:Frag)(ta:TE):TE:=λY H Q=>ta Y H λx H1=>∃t xs,x= .ref t/\D2 K H1 t xs/\∀l,H1 l=none->Q (.ref l) (upd H1 l (.lst xs.reverse))
theorem KR(L:X.calm=true)(D:Gl X "list")(A:X.mg "list"=none)(C:Gl X "reversed")(y:X.mg "reversed"=none)(he:PE X e te)(c:starEach [e] X.env=[(false,eval e X.env)]:=by rfl)
 (d:starEach [.Call (.Name "reversed" p2) [e] [] p3] X.env=[(false,eval (.Call (.Name "reversed" p2) [e] [] p3) X.env)]:=by rfl):
 PE X (.Call (.Name "list" p1) [.Call (.Name "reversed" p2) [e] [] p3] [] pos) (eG X.K te):=by
 intro p0 s Y H Q I h;refine wpAny_Call_Name_kw (CJ I D A boot_list ?_ (by decide) (by decide));refine PyProof.Rows.callWith_type1 ?_ d rfl;rw[d];show wpAny _ _ (spliced ((false,eval (.Call (.Name "reversed" p2) [e] [] p3) X.env)::backTo pos [])) _ _ s;refine Calls.spliced_cons ?_;refine wpAny_Call_Name_kw (CJ I C y boot_reversed ?_ (by decide) (by decide));have h':Jt te Ob Y H (λvs H1=>match vs with|[x]=>(∃t xs,x= .ref t/\D2 X.K H1 t xs/\∀l,H1 l=none->Q (.ref l) (upd H1 l (.lst xs.reverse)))|_=>False):=h;refine PyProof.Rows.callWith_type1 (AS (AB he Bv c p3 p0 s Y H _ I h') λus s1 ⟨vs,H1,i,m,n⟩=>?_) c rfl
 match vs,m,n with
 |[x],m,n=>
   rintro⟨u,rfl,G⟩:vals1 m;rintro⟨t,xs,rfl,hq,q⟩:n;cases G;rintro⟨its,E,r,hz⟩:i.tuple hq;have hlen:=E.length;have v:its.toArray.size<=sizeLine:=by rw[size_toArray];lia
   refine Tz r (by rw[size_toArray];have:=D8;lia) λtk=>?_
   refine Calls.spliced_nil ?_;have lt:t < s1.heap.objs.size:=let⟨o,w,_⟩:=r;hZ w;refine RL (t:=t) (items:=its.toArray) (i.ok.hd L) (Heap.get?_push_size _ rfl) (let⟨o,w,z⟩:=r;#[o,gP w,z]) v (Nat.ne_of_lt lt) λh' k acc c' J N a=>?_
   have F:s1.heap.objs.size<=(s1.heap.push (Co t ((its.toArray.size:Int)-1))).objs.size:=by rw[Heap.size_push];exact Nat.le_succ _
   have f:acc.toList=its.reverse:=by
    apply ext_getElem?;intro j;have hsz:acc.size=its.length:=by rw[a.1,size_toArray]
    by_cases B:j < its.length
    .have M:acc.toList[j]? =some (acc[j]'(by lia)):=by simp[hsz,B]
     have g:=a.2 j (acc[j]'(by lia)) (by simp[hsz,B]);rw[M,List.getElem?_reverse B];have g:its.toArray[its.toArray.size-1-j]? =some (acc[j]'(by lia)):=g;rw[size_toArray,List.getElem?_toArray]at g;rw[<-g]
    .rw[List.getElem?_eq_none (by simp;lia),List.getElem?_eq_none (by simp;lia)]
   refine#[.ref (s1.heap.push (Co t ((its.toArray.size:Int)-1))).objs.size,_,i.laid (t':=k) (o:=.lst xs.reverse) (λb o e=>J b o (Nat.ne_of_lt (hZ e)) (gP e)) F ?_,rfl,q _ (i.Aj.fresh F)];refine#[by rw[List.length_reverse];exact hz,its.reverse,c',E.reverse,?_];rw[N,<-f]
def aV:V->Option Int->Option Int->Hp->VK->Prop:=λx lo hi H Q=>∃y,x= .str y/\y.length<=sizeLine/\Q (.str (Txt.slice y lo hi)) H
theorem Vv:Xv X aV:=by
 intro p0 s Y H x v vl vu lo hi sl Q I b hs c pu h;rintro⟨y,rfl,hz,q⟩:h;rintro⟨t,rfl⟩:b;refine#["str",_,F.slot_str_getitem.lookup,typeIs_str _ _ _,?_];have fin:∀t' k,EP X p0 Y Q (.str (Txt.slice y lo hi) t') {s with toks:=k}:=λt' k=>#[.str (Txt.slice y lo hi),H,I.tok k,#[t',rfl],q]
 rintro⟨o,h1,h2,a⟩:hs;cases c with
 |none=>
   cases pu with
   |none=>exact wpAny_getItem_str_slice (l:=none) (u:=none) (st:=none) #[o,h1,h2,a] rfl (post_val_or_str #[Nat.le_trans (Txt.slice_le y _ _) hz,fin])
   |int j u=>exact wpAny_getItem_str_slice (l:=none) (u:=some (j,u)) (st:=none) #[o,h1,h2,a] rfl (post_val_or_str #[Nat.le_trans (Txt.slice_le y _ _) hz,fin])
 |int i u=>
   cases pu with
   |none=>exact wpAny_getItem_str_slice (l:=some (i,u)) (u:=none) (st:=none) #[o,h1,h2,a] rfl (post_val_or_str #[Nat.le_trans (Txt.slice_le y _ _) hz,fin])
   |int j u'=>exact wpAny_getItem_str_slice (l:=some (i,u)) (u:=some (j,u')) (st:=none) #[o,h1,h2,a] rfl (post_val_or_str #[Nat.le_trans (Txt.slice_le y _ _) hz,fin])
theorem Kh(n:X.calm=true):Di X (.builtin "all") (λxs H Q=>∃(l:Addr) (bs:List Bool),xs=[.ref l]/\DP X.K H l (bs.map V.bl)/\Q (.bl (bs.all id)) H):=by
 intro p0 s Y H xs us Q I r h;rintro⟨l,bs,rfl,hq,q⟩:h;rintro⟨u,rfl,d⟩:vals1 r;cases d;rintro⟨its,j,f,hz⟩:I.list hq;have hlen:=j.length;rw[lM]at hlen;refine call_all_walk (wpAny_pyIter_list f.isList ?_);have lt:l < s.heap.objs.size:=hZ f.isList.choose_spec.1;refine#[_,_,_,_,_,_,λi=>(bs[i]?).getD true,rfl,Walks.list (A:=X.A.in1) (show X.A.in1.handled=none from I.ok.hd n) _ l (Nat.ne_of_lt lt) its.toArray,#[#[_,Heap.get?_push_size _ rfl,rfl,rfl],f.isList.at λo e=>gP e],?_,λh' tk m=>?_]
 .intro i v s' Q' w a c;have a:its.toArray[i]? =some v:=a;rw[List.getElem?_toArray]at a
  have hi:i < bs.length:=by
   have:=(List.getElem?_eq_some_iff.mp a).1
   lia
  have g:(bs.map V.bl)[i]? =some (.bl bs[i]):=by rw[List.getElem?_map,List.getElem?_eq_getElem hi];rfl
  rintro⟨u,k,d⟩:j.get g;have:u=v:=Option.some.inj (k.symm.trans a);subst this;cases d;refine wpAny_truthy_bool ?_;have e:(bs[i]?).getD true=bs[i]:=by rw[List.getElem?_eq_getElem hi];rfl
  have c:Q' ((bs[i]?).getD true) s':=c;rw[e]at c;exact c
 .have e:(List.range its.toArray.size).all (λi=>(bs[i]?).getD true)=bs.all id:=by
   rw[size_toArray,<-hlen];rw[Bool.eq_iff_iff,all_eq_true,all_eq_true];constructor
   .intro h b g;rintro⟨i,hi,e⟩:mem_iff_getElem.mp g;have:=h i (mem_range.mpr hi);rw[List.getElem?_eq_getElem hi,e]at this;exact this
   .intro h i hi;have hi:=mem_range.mp hi;have:=h bs[i] (getElem_mem hi);rw[List.getElem?_eq_getElem hi];exact this
  have t:EP X p0 Y Q (.bool (bs.all id)) {s with heap:=h',toks:=tk}:=by
   refine#[.bl (bs.all id),H,I.kept (t':=tk) λb o e=>m b o (λz=>?_) (gP e),rfl,q];exact absurd (hZ e) (by rw[mE z];exact Nat.lt_irrefl _)
  rw[e];exact t
end
variable{g:TG}{te:TE}{Y:St}{H:Hp}{Q:List V->Hp->Prop}{K:Frag}{a:Addr}{xs:List V}
end L2
namespace PySem
open AutoSeq1 (wpAny_loadPart')
theorem T9(l:Addr)(xs:Array Value)(n:Nat)(b:Addr)(ys:Array Value)(c:Nat)(Bl:Option Addr)(sl:Array (Option Value))(h0:¬(!xs.isEmpty && Builtin.List.listTooLong (xs.size + ys.size))=true)(h1:xs.size<=sizeLine)(h2:xs.size + ys.size<=sizeLine + 1):
 Meets (Builtin.«list.extend» #[[.ref l,.ref b],[]]) (λ_ R s=>s.heap.get? l=some {cls:=.type "list",dict:=none,data:=.seq xs n,slots:=[].toArray}/\
  s.heap.get? b=some {cls:=.type "tuple",dict:=Bl,data:=.seq ys c,slots:=sl}/\R (.ok (.ret Value.none)) {s with heap:=s.heap.update l (Obj.mapSeq λx=>x++ys),toks:=s.toks}):=
 .of_wp λprog w A R s h=>by
  rintro⟨f,g,d,tk,os⟩:s;rintro⟨hl,e,h⟩:h;have a:(xs++ys).size<=sizeLine+1:=by rw[Array.size_append];exact h2
  wp_walk using(wpAny_updateSeq hl rfl (hz:=h1) (_hz':=a)),wpAny_loadPart' hl,wpAny_loadPart' e
  exact#[_,rfl,h]
end PySem
namespace L2
open PySem PySem.Spec PyProof.Rows
section
variable{X:Cx}{tg e:Expr}{pos p p1 p2 p3:Pos}{ta te:TE}
def dI(y:Str):It:=#[λi _=>i < y.length,λi H x H'=>H'=H/\∃c,y.cps[i]? =some c/\x= .str #[[c].toArray],λi _=>y.length<=i]
theorem NZ{P:Program}{w:World}{K:Frag}{tg:Expr}(it:Addr)(y:Str)(t:Tok):Turn P w K tg (dI y) [it] it (λi h=>h.IsStrIter it "str_ascii_iterator" y t i) where
 mem:=by simp
 obj:=λi h st b f=>by
  have e:b=it:=by simpa using f
  subst e;rintro⟨o,e,c,d⟩:st;exact#[o,e,λv z=>by rw[d]at z;cases z]
 keep:=λi h h' st k=>by
  rintro⟨o,e,r⟩:st;exact#[o,k it (by simp) o e,r]
 item:=by
  intro X j hw hK n i p0 s Y H E I hf st a;subst j hw hK;have a:i < y.cps.size:=a;rintro⟨f0,f1,f2,m,f4,l⟩:hf it (by simp);refine wpAny_pyNext_ascii_item st (c:=y.cps[i]) (Array.getElem?_eq_getElem a) λh' g q=>?_
  have x:Inv X p0 Y H {s with heap:=h',toks:=s.toks+1}:=I.turned (λb o f e=>(q.2 b f).trans e) f0 f1 m f4 l;rintro⟨o,e,c,d⟩:id g;exact#[_,rfl,K4 (s:={s with heap:=h',toks:=s.toks+1}) e c d (by decide) #[.str #[[y.cps[i]].toArray],H,x,#[_,rfl],#[rfl,_,Array.getElem?_eq_getElem a,rfl],g,λb f=>(hf b f).1]]
 done:=by
  intro X j hw hK n i p0 s Y H E I hf st a;subst j hw hK;have a:y.cps.size<=i:=a;rintro⟨f0,f1,f2,m,f4,l⟩:hf it (by simp);exact wpAny_pyNext_ascii_end (I.ok.hd n) st (Array.getElem?_eq_none a) λh' u=>#[rfl,I.turned (t':=s.toks) (λb o f e=>u b o f e) f0 f1 m f4 l]
 self:=λA i s Q E st h=>by
  refine wpAny_pyIter_slot st.typeIs PySem.F.slot_str_ascii_iterator_iter (wpAny_call_entry PySem.F.slot_str_ascii_iterator_iter st.typeIs PySem.F.entry_str_ascii_iterator_iter ?_ (PySem.F.args_str_ascii_iterator_iter_1 _));show wpAny _ _ (ret (.ref it)) _ _ s;exact wpAny_pure #[_,rfl,"str_ascii_iterator",_,st.typeIs,PySem.F.slot_str_ascii_iterator_next.lookup,h]
theorem N8:BG X (compareOp .LtE) (λx y H Q=>∃i j,x= .str i/\y= .str j/\Q (.bl (!decide (j.cps.toList < i.cps.toList))) H):=by
 intro p0 s Y H x y v u Q I b a h;rintro⟨i,j,rfl,rfl,q⟩:h;rintro⟨t,rfl⟩:b;rintro⟨t',rfl⟩:a;exact PySem.P.le_str (Lv I q rfl)
end
end L2
namespace PySem
open Sem (wp)
open AutoSeq1 (wpAny_loadPart')
open PyProof.Rows
namespace LV
theorem DG:Slot "list_reverseiterator" "__length_hint__" "list_reverseiterator.__length_hint__":=
 .of (owner:="list_reverseiterator") (n:="__length_hint__") (by rw[typeLookup_type,builtinLookup_eq_fast];kernel_rfl) #[] #[] #[]
  (by first|exact .inl #[]|exact .inr #[]) (by rw[isSubtype_type];kernel_rfl)
theorem GL:entryFor table "list_reverseiterator.__length_hint__"=some Builtin.«list_reverseiterator.__length_hint__»:=entryFor_of_tree (by kernel_rfl)
theorem P0:Manifest.owners.lookup (String.ofList ['r','o','t','a','r','e','t','i','e','s','r','e','v','e','r','_','t','s','i','l'].reverse)=some Manifest.sig_list_reverseiterator:=by kernel_rfl
theorem I9(a:Value):argsOk "list_reverseiterator.__length_hint__" #[[a],[]]:=by
 unfold argsOk;rw[signature?_of (id:="list_reverseiterator.__length_hint__") (n:=['_','_','t','n','i','h','_','h','t','g','n','e','l','_','_']) (o:=['r','o','t','a','r','e','t','i','e','s','r','e','v','e','r','_','t','s','i','l']) (by kernel_rfl) P0];kernel_rfl
theorem P9:typeLookup (.type "list_reverseiterator") "__len__"=pure none:=by rw[typeLookup_type,builtinLookup_eq_fast];kernel_rfl
end LV
end PySem
namespace HT
open PySem PyProof.Rows
section
variable{prog:Program}{w:World}{A:Around}{E:Va}{s:Shared}
theorem DR{sl:Addr}{items:Array Value}{vl vu:Value}{lo hi:Option Int}{Q:Va}(b:IsTup s.heap t items)(hs:s.heap.IsSliceOf sl vl vu .none)(f:IsPart vl lo)(pu:IsPart vu hi)
 (hw:BD items.size 0 lo=0/\BD items.size items.size hi=items.size)(h:Q (.ref t) s):wpAny (model prog w) A (getItem (.ref t) (.ref sl)) Q E s:=by
 rintro⟨os,c,d,g⟩:id hs;have e:s.TypeIs (.ref sl) "slice":=#[os,c,d];unfold getItem
 try with_reducible refine wpAny_holding ?_
 first|refine wB (wpAny_pure ?_)|skip
 refine wB (wpAny_sequenceKey b.typeIs (by decide) ?_)
 refine wB (wpAny_callSpecial?_slot (name:=Str.ofString "__getitem__") b.typeIs PyProof.Rows.slot_tuple_getitem
  (wpAny_call_entry PyProof.Rows.slot_tuple_getitem b.typeIs entry_tuple_getitem ?_ (args_tuple_getitem _ _)))
 show wpAny _ _ (Builtin.Tuple.tupleItemsOf (.ref t) >>= _) _ _ s;refine wB (tupleItemsOf_ b ?_);refine wB (wpAny_typeOf e ?_);rw[iP (by decide)];refine wB (CM hs f pu ?_)
 have a:((((BD items.size 0 lo:Nat):Int) == 0 && (1:Int) == 1 && (BD items.size items.size hi - BD items.size 0 lo) == items.size)=true):=by
  rw[hw.1,hw.2];simp
 show wpAny _ _ (if(((BD items.size 0 lo:Nat):Int) == 0 && (1:Int) == 1 && (BD items.size items.size hi-BD items.size 0 lo) == items.size)=true then _ else _) _ _ s;rw[iP a];unfold Builtin.Tuple.tupleIsExact;refine wB (wB (wpAny_typeOf b.typeIs (wpAny_pure ?_)));rw[iP (by decide)];refine wB (wpAny_rule ?_);exact wpAny_pure #[_,rfl,wpAny_pure h]
end
end HT
namespace L2
open PySem PySem.Spec PyProof.Rows
variable{X:Cx}
def YN(K:Frag):V->Option Int->Option Int->Hp->VK->Prop:=λx lo hi H Q=>∃a xs,x= .ref a/\D2 K H a xs/\
 (HT.BD xs.length 0 lo=0/\HT.BD xs.length xs.length hi=xs.length)/\Q (.ref a) H
theorem RF:Xv X (YN X.K):=by
 intro p0 s Y H x v vl vu lo hi sl Q I c hs d pu h;rintro⟨a,xs,rfl,e,hw,q⟩:h;cases c;rintro⟨its,r,b,hz⟩:I.tuple e;have hlen:its.toArray.size=xs.length:=by rw[size_toArray];exact r.length.symm
 refine#["tuple",_,PyProof.Rows.slot_tuple_getitem.lookup,b.typeIs,?_];refine HT.DR b hs d pu (by rw[hlen];exact hw) ?_;exact#[.ref a,_,I,rfl,q]
end L2
namespace Nv
open PySem
inductive P where
 |AG|bl (b:Bool)|int (i:Int)|str (x:Str)|tup (ps:List P)|fn (i:Nat)(c:List P)|box (t:Nat)(ps:List P)
 deriving Inhabited
inductive Fd where
 |p (x:P)|d (kvs:List (P×P))
def Fd.XN:Fd->Bool
 |.d _=>true
 |_=>false
inductive C where
 |p (x:P)|lst (o:Bool)(ps:List P)|Bl (o:Bool)(kvs:List (P×P))|obj (o:Bool)(fs:List Fd)
 deriving Inhabited
abbrev Env:=List (Option C)
def A8(U:Env)(i:Nat):Option C:=(U[i]?).getD none
def C.bor:C->C
 |.p x=>.p x
 |.lst _ ps=>.lst false ps
 |.Bl _ kvs=>.Bl false kvs
 |.obj _ fs=>.obj false fs
inductive Res(α:Type) where
 |stuck|ok (a:α)
def Res.bind{α β:Type}(r:Res α)(f:α->Res β):Res β:=match r with
 |.stuck=>.stuck
 |.ok a=>f a
def Res.of{α:Type}:Option α->Res α
 |some a=>.ok a
 |none=>.stuck
def C.CK:C->Option P
 |.p x=>some x
 |.lst o ps=>if o then some (.box 0 ps)else none
 |_=>none
inductive Tg where
 |nm (i:Nat)|tup (is:List Nat)
def Tg.slots:Tg->List Nat
 |.nm i=>[i]
 |.tup is=>is
abbrev Sq:=C->Option (List P)
inductive T where
 |cst (c:C)|var (i:Nat)
 |Ak (f:C->Option C)(a:T)|A1 (f:C->C->Option C)(a b:T)|XF (f:C->C->C->Option C)(a b c:T)
 |Tu (f g:C->C->Option C)(a b c:T)
 |tup (ts:List T)|lst (ts:List T)
 |and (a b:T)|or (a b:T)|not (a:T)|ite (c a b:T)
 |call (f:Nat)(ts:List T)|Bq (f:Nat)(a:T)(ts:List T)|make (f:Nat)(ts:List T)|app (i:Nat)(ts:List T)|Ki (f:Nat)(a:T)(l:Nat)(EM:List Nat)
 |comp (g:Tg)(k:Sq)(it:T)(cond:List T)(elt:T)(fr:List (Option Nat))
inductive S where
 |asg (g:Tg)(t:T)|Ce (i:Nat)(b:Bool)(f:C->List C->Option C)(ts:List T)|pop (d:Option Nat)(i:Nat)|expr (t:T)
 |ret (t:T)|CG (i:Nat)|ifs (c:T)(a b:List S)|R8 (c:T)(b:List S)|Dj (g:Tg)(k:Sq)(it:T)(b:List S)
 |no|HS (i f:Nat)(ts:List T)
abbrev CF:=Nat->List C->Res C
noncomputable def FH:C->Option Bool
 |.p .AG=>some false
 |.p (.bl b)=>some b
 |.p (.int i)=>some (i != 0)
 |.p (.str x)=>if x.length<=100000 then some (x.length != 0)else none
 |.p (.tup ps)=>some (!ps.isEmpty)
 |.p (.box 0 ps)=>some (!ps.isEmpty)
 |.lst _ ps=>some (!ps.isEmpty)
 |_=>none
def C.EN :C->Option Bool
 |.p (.bl b)=>some b
 |_=>none
def C.ZJ :C->Option (Nat×List P)
 |.p (.fn i c)=>some (i,c)
 |_=>none
def C.Hb :C->Option P
 |.p x=>some x
 |_=>none
def C.fc :C->Option Int
 |.p (.int i)=>some i
 |_=>none
def P.CL :P->Option (List P)
 |.tup ps=>some ps
 |_=>none
def Cs(g:Tg)(v:P)(U:Env):Option Env:=match g with
 |.nm i=>some (U.set i (some (.p v)))
 |.tup is=>v.CL.bind λvs=>if is.length=vs.length then some ((is.zip vs).foldl (λr q=>r.set q.1 (some (.p q.2))) U)else none
def AE(fr:List (Option Nat))(U:Env):Env:=fr.map λo=>o.bind λi=>(A8 U i).map C.bor
noncomputable def C7(g:Tg)(cond:Env->Res Bool)(elt:Env->Res C)(β:Env):List P->Res (List P)
 |[]=>.ok []
 |x::xs=>(Res.of (Cs g x β)).bind λβ1=>(cond β1).bind λb=>if b then(elt β1).bind λc=>(Res.of c.CK).bind λy=>(C7 g cond elt β xs).bind λys=>.ok (y::ys)else C7 g cond elt β xs
structure Sm where
 v:Env->Res C
 b:Env->Res Bool
def Sm.of(v:Env->Res C):Sm:=#[v,λU=>(v U).bind λc=>Res.of (FH c)]
def NH(U:Env):List Nat->Option (List P)
 |[]=>some []
 |i::is=>((A8 U i).bind C.fc).bind λx=>(NH U is).map (.int x::·)
def big:Nat:=100000
def C.WX:C->Bool
 |.p _=>true
 |_=>false
def C.UG:C->Bool
 |.obj _ _=>true
 |_=>false
def C.Jd:C->Bool
 |.obj o _=>o
 |_=>false
mutual
noncomputable def den (cf:CF):T->Sm
 |.cst c=>.of λ_=>.ok c.bor
 |.var i=>.of λU=>Res.of ((A8 U i).map C.bor)
 |.Ak f a=>.of λU=>((den cf a).v U).bind λx=>Res.of (f x)
 |.A1 f a b=>.of λU=>((den cf a).v U).bind λx=>((den cf b).v U).bind λy=>Res.of (f x y)
 |.XF f a b c=>.of λU=>((den cf a).v U).bind λx=>((den cf b).v U).bind λy=>((den cf c).v U).bind λz=>Res.of (f x y z)
 |.Tu f g a b c=>.of λU=>((den cf a).v U).bind λx=>((den cf b).v U).bind λy=>(Res.of ((f x y).bind C.EN)).bind λk=>if k then((den cf c).v U).bind λz=>Res.of (g y z)else .ok (.p (.bl false))
 |.tup ts=>.of λU=>(FR cf ts U).bind λps=>if ps.length<=1000 then .ok (.p (.tup ps))else .stuck
 |.lst ts=>.of λU=>(FR cf ts U).bind λps=>if ps.length<=1000 then .ok (.lst true ps)else .stuck
 |.and a b=>#[λU=>((den cf a).v U).bind λc=>(Res.of c.EN).bind λk=>if k then(den cf b).v U else .ok (.p (.bl false)),λU=>((den cf a).b U).bind λk=>if k then(den cf b).b U else .ok false]
 |.or a b=>#[λU=>((den cf a).v U).bind λc=>(Res.of c.EN).bind λk=>if k then .ok (.p (.bl true))else(den cf b).v U,λU=>((den cf a).b U).bind λk=>if k then .ok true else(den cf b).b U]
 |.not a=>#[λU=>((den cf a).v U).bind λc=>(Res.of c.EN).bind λk=>.ok (.p (.bl (!k))),λU=>((den cf a).b U).bind λk=>.ok (!k)]
 |.ite c a b=>#[λU=>((den cf c).b U).bind λk=>if k then(den cf a).v U else(den cf b).v U,λ_=>.stuck]
 |.call f ts=>.of λU=>(BK cf ts U).bind λcs=>cf f cs
 |.Bq f a ts=>.of λU=>((den cf a).v U).bind λc=>if c.UG then(BK cf ts U).bind λcs=>cf f (c::cs)else .stuck
 |.make f ts=>.of λU=>(BK cf ts U).bind λcs=>(cf f (.obj true []::cs)).bind λc=>if c.Jd then .ok c else .stuck
 |.app i ts=>.of λU=>(Res.of ((A8 U i).bind C.ZJ)).bind λq=>(BK cf ts U).bind λcs=>cf q.1 (cs++q.2.map .p)
 |.Ki f a l EM=>.of λU=>((den cf a).v U).bind λx=>(Res.of (NH U EM)).bind λps=>(cf f [x,.p (.fn l ps)]).bind λc=>(Res.of c.EN).bind λb=>.ok (.p (.bl b))
 |.comp g k it cond elt fr=>.of λU=>((den cf it).v U).bind λc=>(Res.of (k c)).bind λxs=>if xs.length<=big then(C7 g (FU cf cond) (den cf elt).v (AE fr U) xs).bind λys=>.ok (.lst true ys)else .stuck
noncomputable def BK (cf:CF):List T->Env->Res (List C)
 |[],_=>.ok []
 |t::ts,U=>((den cf t).v U).bind λc=>(BK cf ts U).bind λcs=>.ok (c::cs)
noncomputable def FR (cf:CF):List T->Env->Res (List P)
 |[],_=>.ok []
 |t::ts,U=>((den cf t).v U).bind λc=>(Res.of c.CK).bind λx=>(FR cf ts U).bind λxs=>.ok (x::xs)
noncomputable def FU (cf:CF):List T->Env->Res Bool
 |[],_=>.ok true
 |t::_,U=>(den cf t).b U
end
abbrev ev(cf:CF)(t:T):Env->Res C:=(den cf t).v
abbrev tv(cf:CF)(t:T):Env->Res Bool:=(den cf t).b
inductive Fl where
 |nx (U:Env)|ret (c:C)|stuck
def Res.fl{α:Type}(r:Res α)(f:α->Fl):Fl:=match r with
 |.stuck=>.stuck
 |.ok a=>f a
def C.own:C->Bool
 |.p _=>true
 |.lst o _=>o
 |.Bl o _=>o
 |.obj o _=>o
def Fl.then(r:Fl)(f:Env->Fl):Fl:=match r with
 |.nx U=>f U
 |r=>r
def Fl.turn(r:Fl)(f:Env->Fl):Fl:=match r with
 |.nx U=>f U
 |r=>r
abbrev WH:=(Env->Res Bool)->(Env->Fl)->Env->Fl
def Ay(c:Env->Res Bool)(b:Env->Fl):Nat->Env->Fl
 |0,_=>.stuck
 |n+1,U=>(c U).fl λx=>if x then(b U).turn (Ay c b n)else .nx U
open Classical in
noncomputable def As:WH:=λc b U=>if h:∃n,Ay c b n U≠.stuck then Ay c b h.choose U else .stuck
def forL(g:Tg)(b:Env->Fl):List P->Env->Fl
 |[],U=>.nx U
 | x::xs,U=>match Cs g x U with
   |some U1=>(b U1).turn (forL g b xs)
   |none=>.stuck
def Fq:T->Option Nat
 |.var i=>some i
 |_=>none
def C.SW:C->Bool
 |.lst o _=>o
 |_=>false
def C.cT:C->C
 |.lst _ ps=>.lst true ps
 |c=>c
def Ra(c0:Option C)(i:Nat)(U:Env):Env:=if c0.any C.SW then U.set i ((A8 U i).map C.cT)else U
def Fl.fin(r:Fl)(f:Env->Env):Fl:=match r with
 |.nx U=>.nx (f U)
 |.ret c=>.ret c
 |_=>.stuck
def Gj(g:Tg)(c:C)(U:Env):Option Env:=match g with
 |.nm i=>if c.own then some (U.set i (some c))else none
 |.tup is=>(match c with| .lst _ ps=>some ps| .p x=>x.CL |_=>none).bind λps=>Cs (.tup is) (.tup ps) U
def JI:C->Option (P×C)
 |.lst o ps=>if o then ps.getLast?.map λx=>(x,.lst true ps.dropLast)else none
 |_=>none
mutual
def ZQ:S->List Nat
 |.asg g _=>g.slots
 |.pop d _=>d.toList
 |.ifs _ a b=>CD a++CD b
 |.R8 _ b=>CD b
 |.Dj g _ _ b=>g.slots++CD b
 |_=>[]
def CD:List S->List Nat
 |[]=>[]
 |s::ss=>ZQ s++CD ss
end
mutual
noncomputable def exec (cf:CF) (wh:WH):S->Env->Fl
 | .asg g t,U=>(ev cf t U).fl λc=>match Gj g c U with
   |some U'=>.nx U'
   |none=>.stuck
 | .Ce i b f ts,U=>if !(A8 U i).any (cond b C.SW λ_=>true)then .stuck else(BK cf ts U).fl λcs=>match(A8 U i).bind λc=>f c cs with
   |some c'=>.nx (U.set i (some c'))
   |none=>.stuck
 | .pop d i,U=>match(A8 U i).bind JI with
   | some q=>match d with
     |some j=>if j=i then .stuck else .nx ((U.set i (some q.2)).set j (some (.p q.1)))
     |none=>.nx (U.set i (some q.2))
   |none=>.stuck
 |.expr t,U=>(ev cf t U).fl λ_=>.nx U
 |.ret t,U=>(ev cf t U).fl λc=>if c.own then .ret c else .stuck
 | .CG i,U=>match A8 U i with
   |some c=>if c.own then .ret c else .stuck
   |none=>.stuck
 |.ifs c a b,U=>(tv cf c U).fl λx=>if x then execs cf wh a U else execs cf wh b U
 |.R8 c b,U=>wh (tv cf c) (execs cf wh b) U
 | .Dj g k it b,U=>match Fq it with
   | some i=>match(A8 U i).bind λc=>k c.bor with
     |some xs=>if(g.slots++CD b).contains i then .stuck else(forL g (execs cf wh b) xs (U.set i ((A8 U i).map C.bor))).fin (Ra (A8 U i) i)
     |none=>.stuck
   | none=>(ev cf it U).fl λc=>match k c with
     |some xs=>if c.own then(forL g (execs cf wh b) xs U).fin id else .stuck
     |none=>.stuck
 |.no,_=>.stuck
 | .HS i f ts,U=>match A8 U i with
   |some c=>if c.Jd then(BK cf ts U).fl λcs=>if cs.all C.WX then(cf f (c::cs)).fl λc'=>if c'.Jd then .nx (U.set i (some c'))else .stuck else .stuck else .stuck
   |none=>.stuck
noncomputable def execs (cf:CF) (wh:WH):List S->Env->Fl
 |[],U=>.nx U
 |s::ss,U=>(exec cf wh s U).then (execs cf wh ss)
end
structure LN where
 np:Nat
 nl:Nat
 mu:Bool
 body:List S
def C.got(o:Option C):Res C:=match o with
 |some c=>if c.own then .ok c else .stuck
 |none=>.stuck
noncomputable def Cu(cf:CF)(wh:WH)(fi:LN)(args:List C):Res C:=
 if args.length=fi.np then(if fi.mu then(if(CD fi.body).contains 0 then .stuck else match execs cf wh fi.body (args.map some++List.replicate (fi.nl - fi.np) none)with
  |.nx U=>C.got (A8 U 0)
  |_=>.stuck)
  else match execs cf wh fi.body (args.map some++List.replicate (fi.nl-fi.np) none)with
  |.nx _=>.ok (.p .AG)
  |.ret c=>.ok c
  |_=>.stuck)
 else .stuck
def Be(fns:List LN)(wh:WH):Nat->CF
 |0,_,_=>.stuck
 | k + 1,f,args=>match fns[f]? with
   |some fi=>Cu (Be fns wh k) wh fi args
   |none=>.stuck
end Nv
namespace Nv
open PySem
def P.int? :P->Option Int
 |.int i=>some i
 |_=>none
def P.BN :P->Option Str
 |.str i=>some i
 |_=>none
def P.EN :P->Option Bool
 |.bl i=>some i
 |_=>none
def P.ZJ :P->Option (Nat×List P)
 |.fn i c=>some (i,c)
 |_=>none
def P.TF :P->Option (Nat×List P)
 |.box i c=>some (i,c)
 |_=>none
def P.tag:P->Nat
 |.AG=>0| .bl _=>1| .int _=>2| .str _=>3| .tup _=>4| .fn _ _=>5| .box _ _=>6
mutual
def Dc:P->P->Bool
 |.AG,q=>q.tag == 0
 |.bl b,q=>q.EN == some b
 |.int i,q=>q.int? == some i
 |.str x,q=>q.BN == some x
 |.tup ps,q=>q.CL.any (CW ps)
 |.fn i c,q=>q.ZJ.any λr=>i == r.1 && CW c r.2
 |.box i c,q=>q.TF.any λr=>i == r.1 && CW c r.2
def CW:List P->List P->Bool
 |[],qs=>qs.isEmpty
 |p::ps,qs=>qs.head?.any (Dc p) && CW ps qs.tail
end
theorem any_some{α:Type}{o:Option α}{f:α->Bool}(h:o.any f=true):∃a,o=some a/\f a=true:=by
 cases o with
 |none=>cases h
 |some a=>exact#[a,rfl,h]
theorem P.AW{q:P}{i:Int}(h:q.int? =some i):q= .int i:=by cases q<;>cases h;rfl
theorem P.Bt{q:P}{i:Str}(h:q.BN =some i):q= .str i:=by cases q<;>cases h;rfl
theorem P.FF{q:P}{i:Bool}(h:q.EN =some i):q= .bl i:=by cases q<;>cases h;rfl
theorem P.Bs{q:P}{i:List P}(h:q.CL =some i):q= .tup i:=by cases q<;>cases h;rfl
theorem P.Qa{q:P}{i:Nat×List P}(h:q.ZJ =some i):q= .fn i.1 i.2:=by cases q<;>cases h;rfl
theorem P.Qz{q:P}{i:Nat×List P}(h:q.TF =some i):q= .box i.1 i.2:=by cases q<;>cases h;rfl
mutual
theorem MH:∀{p q:P},Dc p q=true->p=q
 |.AG,q,h=>by unfold Dc at h;cases q<;>first|rfl|cases h
 |.bl b,q,h=>by unfold Dc at h;exact(P.FF (eq_of_beq h)).symm
 |.int b,q,h=>by unfold Dc at h;exact(P.AW (eq_of_beq h)).symm
 |.str b,q,h=>by unfold Dc at h;exact(P.Bt (eq_of_beq h)).symm
 | .tup ps,q,h=>by
   unfold Dc at h;rintro⟨a,h1,h2⟩:any_some h;rw[P.Bs h1,EG h2]
 | .fn i c,q,h=>by
   unfold Dc at h;rintro⟨a,h1,h2⟩:any_some h;rw[bA]at h2;rw[P.Qa h1,eq_of_beq h2.1,EG h2.2]
 | .box i c,q,h=>by
   unfold Dc at h;rintro⟨a,h1,h2⟩:any_some h;rw[bA]at h2;rw[P.Qz h1,eq_of_beq h2.1,EG h2.2]
theorem EG:∀{ps qs:List P},CW ps qs=true->ps=qs
 |[],qs,h=>by unfold CW at h;exact(isEmpty_iff.mp h).symm
 |p::ps,[],h=>by unfold CW at h;cases h
 | p::ps,q::qs,h=>by
   unfold CW at h;rw[bA]at h;have h1:Dc p q=true:=h.1;rw[MH h1,EG (ps:=ps) (qs:=qs) h.2]
end
mutual
theorem I0:∀(p:P),Dc p p=true
 |.AG=>rfl
 |.bl b=>by unfold Dc;exact beq_self_eq_true _
 |.int b=>by unfold Dc;exact beq_self_eq_true _
 |.str b=>by unfold Dc;exact beq_self_eq_true _
 |.tup ps=>by unfold Dc;exact D9 ps
 |.fn i c=>by unfold Dc;show(i == i && CW c c)=true;rw[beq_self_eq_true,D9 c];rfl
 |.box i c=>by unfold Dc;show(i == i && CW c c)=true;rw[beq_self_eq_true,D9 c];rfl
theorem D9:∀(p:List P),CW p p=true
 |[]=>rfl
 |p::ps=>by unfold CW;show(Dc p p && CW ps ps)=true;rw[I0 p,D9 ps];rfl
end
instance:DecidableEq P:=λp q=>decidable_of_bool (Dc p q) #[MH,λh=>h▸I0 p]
mutual
def BM:P->P->Bool
 |.tup a,q=>q.tag < 4 || q.CL.any (BA a)
 |.AG,q=>q.tag < 5
 |.bl _,q=>q.tag < 5 && q.tag != 2
 |.int _,q=>q.tag < 5 && q.tag != 1
 |.str _,q=>q.tag < 5
 |_,_=>false
def BA:List P->List P->Bool
 |[],_=>true
 |p::ps,qs=>(match qs with|[]=>true|q::qs=>BM p q && BA ps qs)
end
def C.int?(c:C):Option Int:=c.Hb.bind P.int?
def C.BN(c:C):Option Str:=c.Hb.bind P.BN
def C.CL(c:C):Option (List P):=c.Hb.bind P.CL
def P.PB(p:P):Option (List P):=p.TF.bind λr=>if r.1=0 then some r.2 else none
def C.FK :C->Option (List P)
 |.lst _ ps=>some ps
 |.p x=>x.PB
 |_=>none
def C.seq?(c:C):Option (List P):=c.FK <|> c.CL
def Ye{α:Type}(xs:List α):Option (List α):=if xs.length<=big then some xs else none
abbrev nw(ps:List P):C:=.lst true ps
def Aw(f:Int->Int->Option Int)(a b:C):Option C:=a.int?.bind λi=>b.int?.bind λj=>(f i j).map λk=>.p (.int k)
def cx(i j:Int):Option Int:=some (i+j)
def ET(i j:Int):Option Int:=some (i-j)
def bH(i j:Int):Option Int:=if(-(2 ^ 64) < i/\i < 2 ^ 64)\/(-(2 ^ 64) < j/\j < 2 ^ 64)then some (i*j)else none
def Du(i j:Int):Option Int:=if 0 < j then some (i%j)else none
def EB(i j:Int):Option Int:=if 0 < j/\j < 1073741824 then some (i/j)else none
def JH(i j:Int):Option Int:=if 0<=j/\j<=1000/\i.natAbs < 2 ^ 64 then some (i ^ j.toNat)else none
def cq(a b:C):Option C:=a.BN.bind λi=>b.BN.bind λj=>if i.length+j.length<=big then some (.p (.str (i++j)))else none
def cu(a b:C):Option C:=a.FK.bind λi=>b.FK.bind λj=>(Ye (i++j)).map nw
def Ad(a b:C):Option C:=Aw cx a b <|> cq a b <|> cu a b
def mulC(a b:C):Option C:=Aw bH a b
abbrev bC(b:Bool):C:=.p (.bl b)
mutual
def P.depth:P->Nat
 |.tup ps=>P.Bi ps+1
 |_=>0
def P.Bi:List P->Nat
 |[]=>0
 |p::ps=>max p.depth (P.Bi ps)
end
def ft(p q:P):Option Bool:=if BM p q=true/\p.depth<=90 then some (decide (p=q))else none
def Xf(a b:C):Option Bool:=(a.Hb.bind λp=>b.Hb.bind λq=>ft p q) <|> (a.FK.bind λp=>b.FK.bind λq=>if BA p q=true/\P.Bi p<=90 then some (decide (p=q))else none)
def Bd(a b:C):Option C:=(Xf a b).map bC
def Eo(a b:C):Option C:=(Xf a b).map λk=>bC (!k)
def L7(a b:C):Option C:=a.int?.bind λi=>b.int?.map λj=>bC (decide (i < j))
def Ny(a b:C):Option C:=a.int?.bind λi=>b.int?.map λj=>bC (decide (j < i))
def ZD(a b:C):Option C:=a.int?.bind λi=>b.int?.map λj=>bC (decide (j<=i))
def eW(a b:C):Option C:=a.int?.bind λi=>b.int?.map λj=>bC (decide (i<=j))
def eV(a b:C):Option C:=a.BN.bind λi=>b.BN.map λj=>bC (decide (i.cps.toList<=j.cps.toList))
def Lb(a b:C):Option C:=eW a b <|> eV a b
def C.Ww:C->Bool
 |.p x=>decide (x= .AG)
 |_=>false
def Fw(a b:C):Option C:=b.Hb.bind λq=>if q= .AG then some (bC a.Ww)else none
def E6(a b:C):Option C:=b.Hb.bind λq=>if q= .AG then some (bC (!a.Ww))else none
def Cv{α:Type}(f:P->Option α):List P->Option (List α)
 |[]=>some []
 |p::ps=>(f p).bind λx=>(Cv f ps).map (x::·)
def dq(a b:C):Option Bool:=a.BN.bind λx=>b.seq?.bind λps=>(Cv P.BN ps).map λxs=>xs.contains x
def CT(kvs:List (P×P))(k:P):Option P:=(kvs.find? λq=>decide (q.1=k)).map (·.2)
def dput(kvs:List (P×P))(k v:P):List (P×P):=if(kvs.any λq=>decide (q.1=k))=true then kvs.map λq=>if q.1=k then(q.1,v)else q else kvs++[(k,v)]
def keyOk:P->Bool
 |.int _=>true
 |.str _=>true
 |.tup ps=>ps.all λp=>p.tag == 3
 |_=>false
def Bk(kvs:List (P×P))(k:P):Bool:=keyOk k && kvs.all λq=>q.1.tag == k.tag
def C.Tj :C->Option (List (P×P))
 |.Bl _ kvs=>some kvs
 |_=>none
def inD(a b:C):Option Bool:=a.Hb.bind λk=>b.Tj.bind λkvs=>if Bk kvs k then some (CT kvs k).isSome else none
def IP(a b:C):Option Bool:=dq a b <|> inD a b
def Nu(a b:C):Option C:=(IP a b).map bC
def JP(a b:C):Option C:=(IP a b).map λk=>bC (!k)
def IK(n:Nat)(i:Int):Option Nat:=if 0<=i then(if i < n then some i.toNat else none)else(if -(n:Int)<=i then some (i+n).toNat else none)
def sign(c:Nat):P:=.str #[[c].toArray]
def signs(x:Str):List P:=x.cps.toList.map sign
def C.Kw(c:C):Option (List P):=c.BN.bind λx=>if x.length<=big then some (signs x)else none
def Ae(c i:C):Option C:=(c.seq? <|> c.Kw).bind λps=>i.int?.bind λi=>(IK ps.length i).bind λk=>(ps[k]?).map .p
def Ey(c k:C):Option C:=c.Tj.bind λkvs=>k.Hb.bind λk=>if Bk kvs k then some (.p ((CT kvs k).getD .AG))else none
def DT(n d:Nat):Option Int->Nat
 |none=>d
 |some v=>if v < 0 then(v+n).toNat else min v.toNat n
def cut{α:Type}(xs:List α)(lo hi:Option Int):List α:=(xs.drop (DT xs.length 0 lo)).take (DT xs.length xs.length hi-DT xs.length 0 lo)
def eQ(lo hi:Option Int)(x:C):Option C:=x.FK.map λps=>nw (cut ps lo hi)
def eP(lo hi:Option Int)(x:C):Option C:=x.CL.map λps=>.p (.tup (cut ps lo hi))
def da(lo hi:Option Int)(x:C):Option C:=x.BN.bind λx=>if(lo.all (0<=·) && hi.all (0<=·))/\x.length<=big then some (.p (.str #[(cut x.cps.toList lo hi).toArray]))else none
def JA(lo hi:Option Int)(x:C):Option C:=eQ lo hi x <|> eP lo hi x <|> da lo hi x
def M7(x lo:C):Option C:=lo.int?.bind λl=>JA (some l) none x
def Ou(x hi:C):Option C:=hi.int?.bind λh=>JA none (some h) x
def Vw(x lo hi:C):Option C:=lo.int?.bind λl=>hi.int?.bind λh=>JA (some l) (some h) x
def AD(c:C):Option C:=(c.seq? <|> c.Kw).map λps=>.p (.int ps.length)
def He(f:Int->Option P)(c:C):Option C:=c.int?.bind λi=>(f i).map .p
def Nb(i:Int):Option P:=some (.int (-i))
def TQ(i:Int):Option P:=some (.int (if i < 0 then -i else i))
def CP(c:C):Option C:=(c.seq?.map nw) <|> (c.Kw.bind λps=>if(c.BN.any λx=>x.cps.all λk=>decide (k < 128))then some (nw ps)else none) <|> (c.Tj.map λkvs=>nw (kvs.map (·.1)))
def Py(c:C):Option C:=c.CL.map λps=>nw ps.reverse
def Jo(c:C):Option C:=c.seq?.map λps=>.p (.tup ps)
def Ff(c:C):Option C:=c.FK.bind λps=>(Cv P.EN ps).map λbs=>bC (bs.all id)
def MV:P->Option Bool
 |.bl b=>some b
 |.box 0 ps=>some (!ps.isEmpty)
 |_=>none
def anyC(c:C):Option C:=c.FK.bind λps=>(Cv MV ps).map λbs=>bC (bs.any id)
def Pl(i j:Int):Option Int:=some (if i < j then j else i)
def Ph(i j:Int):Option Int:=some (if j < i then j else i)
def AN:List Str->Nat
 |[]=>0
 |x::r=>if r.contains x then AN r else AN r+1
def L9(c:C):Option C:=c.CL.bind λps=>(Cv P.BN ps).bind λxs=>if xs.length < 4000 then some (.p (.int (AN xs)))else none
def Ga(c:C):Option C:=c.BN.bind λx=>if x="abcdefghijklmnopqrstuvwxyz" then some (.p (.str "ABCDEFGHIJKLMNOPQRSTUVWXYZ"))else none
def Dy(c x:C):Option C:=c.FK.bind λps=>(Cv P.BN ps).bind λxs=>x.BN.bind λx=>(xs.idxOf? x).map λ(k:Nat)=>.p (.int (k:Int))
inductive Ty where
 |int|bool|str|tuple|list
def C.ty:C->Nat
 |.p x=>if x.TF.isSome then(if x.PB.isSome then 7 else 8)else x.tag
 |.lst _ _=>7
 |.Bl _ _=>8
 |.obj _ _=>9
def Ty.has:Ty->Nat->Bool
 |.int,n=>n == 1 || n == 2
 |.bool,n=>n == 1
 |.str,n=>n == 3
 |.tuple,n=>n == 4
 |.list,n=>n == 7
def FN(t:Ty)(c:C):Option C:=if c.ty=5\/c.ty=9 then none else some (bC (t.has c.ty))
def C.Pf:C->Option (List P)
 |.lst o ps=>if o then some ps else none
 |_=>none
def EL(g:C->C->Option C)(c:C)(cs:List C):Option C:=match cs with
 |[a]=>g c a
 |_=>none
def Dt(g:C->C->C->Option C)(c:C)(cs:List C):Option C:=match cs with
 |[a,b]=>g c a b
 |_=>none
def LK(c x:C):Option C:=c.Pf.bind λps=>x.Hb.bind λx=>if ps.length < big then some (nw (ps++[x]))else none
def IY(c x:C):Option C:=c.Pf.bind λps=>x.seq?.bind λqs=>(Ye (ps++qs)).map nw
def T3(c i x:C):Option C:=c.Pf.bind λps=>i.int?.bind λi=>x.Hb.bind λx=>if 0<=i/\i<=ps.length/\ps.length < big then some (nw (ps.take i.toNat++x::ps.drop i.toNat))else none
def putL(c i x:C):Option C:=c.Pf.bind λps=>i.int?.bind λi=>x.Hb.bind λx=>(IK ps.length i).map λk=>nw (ps.set k x)
def putD(c i x:C):Option C:=match c with
 |.Bl o kvs=>if o then i.Hb.bind λk=>x.Hb.bind λv=>if Bk kvs k/\kvs.length < big then some (.Bl true (dput kvs k v))else none else none
 |_=>none
def Dq(c i x:C):Option C:=putL c i x <|> putD c i x
def Fd.c:Fd->C
 |.p x=>.p x
 |.d kvs=>.Bl false kvs
def C.fg :C->Option (List Fd)
 |.obj o fs=>if o then none else some fs
 |_=>none
def C.Ws :C->Option (List Fd)
 |.obj o fs=>if o then some fs else none
 |_=>none
def DB(j:Nat)(c:C):Option C:=c.fg.bind λfs=>(fs[j]?).map Fd.c
def Fd.of:C->Option Fd
 |.Bl o kvs=>if o then some (.d kvs)else none
 |c=>c.CK.map .p
def FI(j:Nat)(c x:C):Option C:=c.Ws.bind λfs=>if fs.length=j then(Fd.of x).map λd=>.obj true (fs++[d])else none
def Fd.WM :Fd->Option (List (P×P))
 |.d kvs=>some kvs
 |_=>none
def Bz(j:Nat)(c x k:C):Option C:=c.Ws.bind λfs=>(fs[j]?).bind λd=>d.WM.bind λkvs=>k.Hb.bind λk=>x.Hb.bind λx=>if Bk kvs k/\kvs.length < big then some (.obj true (fs.set j (.d (dput kvs k x))))else none
def AM(c:C):Option (List P):=c.seq? <|> (c.Kw.bind λps=>if(c.BN.any λx=>x.cps.all λk=>decide (k < 128))then some ps else none)
def Az(lo hi:Int):List P:=(List.range (hi-lo).toNat).map λk=>.int (lo+(k:Nat))
def DQ(c:C):Option (List P):=c.int?.bind λn=>if n.natAbs < 2 ^ 61 then some (Az 0 n)else none
def DW(ps:List P):List P:=ps.zipIdx.map λq=>.tup [.int (q.2:Nat),q.1]
def J0(c:C):Option (List P):=c.FK.map DW
def Gv(a b:C):Option C:=a.Hb.bind λx=>b.Hb.map λy=>.p (.tup [x,y])
def MP(x y:List P):List P:=(x.zip y).map λq=>.tup [q.1,q.2]
def C.Yn(c:C):Option (P×P):=c.CL.bind λps=>ps[0]?.bind λa=>ps[1]?.map λb=>(a,b)
def Jh(c:C):Option (List P):=c.Yn.bind λq=>q.1.CL.bind λx=>q.2.CL.map λy=>MP x y
def KL(c:C):Option (List P):=c.Yn.bind λq=>q.1.int?.bind λi=>q.2.int?.bind λj=>if i.natAbs < 2 ^ 61/\j.natAbs < 2 ^ 61 then some (Az i j)else none
def Ep(c:C):Option C:=(DQ c).bind λps=>if ps.length<=big then some (nw ps)else none
end Nv
namespace Nv
open PySem L2
section
variable{α β:Type}{F:α->β->Prop}
theorem Pd.get:∀{xs:List α} {ys:List β} {i:Nat} {x:α},Paired F xs ys->xs[i]? =some x->∃y,ys[i]? =some y/\F x y
 |_,_,_,_,.nil,e=>by cases e
 |_,_,0,_,.cons h _,e=>by cases e;exact#[_,rfl,h]
 |_,_,i+1,_,.cons _ t,e=>Pd.get (i:=i) t e
theorem Pd.flip:∀{xs:List α} {ys:List β},Paired F xs ys->Paired (λy x=>F x y) ys xs
 |_,_,.nil=>.nil
 |_,_,.cons h t=>.cons h (Pd.flip t)
theorem Pd.append:∀{xs b:List α} {ys a:List β},Paired F xs ys->Paired F b a->Paired F (xs++b) (ys++a)
 |_,_,_,_,.nil,k=>k
 |_,_,_,_,.cons h t,k=>.cons h (Pd.append t k)
theorem Pd.drop:∀{xs:List α} {ys:List β} (n:Nat),Paired F xs ys->Paired F (xs.drop n) (ys.drop n)
 |_,_,0,h=>h
 |_,_,_+1,.nil=>.nil
 |_,_,n+1,.cons _ t=>Pd.drop n t
theorem Pd.take:∀{xs:List α} {ys:List β} (n:Nat),Paired F xs ys->Paired F (xs.take n) (ys.take n)
 |_,_,0,_=>.nil
 |_,_,_+1,.nil=>.nil
 |_,_,n+1,.cons h t=>.cons h (Pd.take n t)
theorem Pd.reverse:∀{xs:List α} {ys:List β},Paired F xs ys->Paired F xs.reverse ys.reverse
 |_,_,.nil=>.nil
 |_,_,.cons h t=>by rw[reverse_cons,reverse_cons];exact Pd.append (Pd.reverse t) (.cons h .nil)
theorem Pd.set{x:α}{y:β}(h:F x y):∀{xs:List α} {ys:List β} (i:Nat),Paired F xs ys->Paired F (xs.set i x) (ys.set i y)
 |_,_,_,.nil=>.nil
 |_,_,0,.cons _ t=>.cons h t
 |_,_,i+1,.cons k t=>.cons k (Pd.set h i t)
theorem Pd.insert{x:α}{y:β}(h:F x y){xs:List α}{ys:List β}(i:Nat)(t:Paired F xs ys):Paired F (xs.take i++x::xs.drop i) (ys.take i++y::ys.drop i):=Pd.append (Pd.take i t) (.cons h (Pd.drop i t))
end
structure Wd where
 K:Frag
 w:World
 lc:Addr
 fl:List Str
 fa:Nat->List P->Addr->Prop
 tabs:List (Addr×Pos×Str)
 NG:List (Addr×Str)
def a9(H:Hp)(a:Addr)(t:Nat)(vs:List V):Prop:=t=0/\∃o,H a=some (.CK o (.lst vs))
mutual
noncomputable def A5 (W:Wd) (H:Hp):P->V->Prop
 |.AG,v=>v= .AG
 |.bl b,v=>v= .bl b
 |.int i,v=>v= .int i
 |.str x,v=>v= .str x
 |.fn i c,v=>∃a,W.fa i c a/\v= .ref a
 |.tup ps,v=>∃a vs,v= .ref a/\D2 W.K H a vs/\BV W H ps vs
 |.box t ps,v=>∃a vs,v= .ref a/\a9 H a t vs/\BV W H ps vs
noncomputable def BV (W:Wd) (H:Hp):List P->List V->Prop
 |[],vs=>vs=[]
 |p::ps,vs=>∃v r,vs=v::r/\A5 W H p v/\BV W H ps r
end
variable{W:Wd}{H H':Hp}{v:V}
theorem N6:∀{ps:List P} {vs:List V},BV W H ps vs↔Paired (A5 W H) ps vs
 |[],vs=>#[λh=>by unfold BV at h;subst h;exact .nil,λh=>by cases h;unfold BV;rfl]
 | p ::ps,vs=>⟨λh=>by
     unfold BV at h;rintro⟨v,r,rfl,h1,h2⟩:h;exact .cons h1 (N6.mp h2),λh=>by
     cases h with
     |cons h1 h2=>unfold BV;exact#[_,_,rfl,h1,N6.mpr h2]⟩
abbrev Cw(W:Wd)(H:Hp):List P->List V->Prop:=Paired (A5 W H)
theorem Aa :A5 W H (.int i) v↔v= .int i:=by unfold A5;exact Iff.rfl
theorem Cz{i:Bool}:A5 W H (.bl i) v↔v= .bl i:=by unfold A5;exact Iff.rfl
theorem AJ :A5 W H (.str i) v↔v= .str i:=by unfold A5;exact Iff.rfl
theorem Dp:A5 W H .AG v↔v= .AG:=by unfold A5;exact Iff.rfl
theorem FZ{i:Nat} :A5 W H (.fn i c) v↔∃a,W.fa i c a/\v= .ref a:=by unfold A5;exact Iff.rfl
theorem A9{ps:List P}:A5 W H (.tup ps) v↔∃a vs,v= .ref a/\D2 W.K H a vs/\Cw W H ps vs:=by
 unfold A5;exact#[λ⟨a,vs,h1,h2,b⟩=>#[a,vs,h1,h2,N6.mp b],λ⟨a,vs,h1,h2,b⟩=>#[a,vs,h1,h2,N6.mpr b]]
theorem CN{t:Nat}{ps:List P}:A5 W H (.box t ps) v↔∃a vs,v= .ref a/\a9 H a t vs/\Cw W H ps vs:=by
 unfold A5;exact#[λ⟨a,vs,h1,h2,b⟩=>#[a,vs,h1,h2,N6.mp b],λ⟨a,vs,h1,h2,b⟩=>#[a,vs,h1,h2,N6.mpr b]]
def AH(H H':Hp):Prop:=∀a,(∀xs,H a=some (.tup xs)->H' a=some (.tup xs))/\∀o u,H a=some (.CK o u)->H' a=some (.CK o u)
theorem AH.refl(H:Hp):AH H H:=λa=>#[λ_ h=>h,λ_ _ h=>h]
theorem AH.trans{H1 H2:Hp}(a:AH H H1)(b:AH H1 H2):AH H H2:=λc=>#[λxs h=>(b c).1 xs ((a c).1 xs h),λo u h=>(b c).2 o u ((a c).2 o u h)]
theorem AH.rd(k:AH H H'){u:HO}(c:∀xs,u= .tup xs->True)(h:Rd H a u)(b:∃xs,u= .tup xs):Rd H' a u:=by
 rintro⟨xs,rfl⟩:b;rcases h with h|⟨o,h⟩
 .exact .inl ((k a).1 _ h)
 .exact .inr #[o,(k a).2 _ _ h]
theorem AH.eJ{K:Frag}{xs:List V}(k:AH H H')(h:D2 K H a xs):D2 K H' a xs:=h.imp (λh=>k.rd (λ_ _=>trivial) h #[xs,rfl]) id
variable{vs:List V}
theorem a9.mono{t:Nat}(k:AH H H')(h:a9 H a t vs):a9 H' a t vs:=
 let⟨h,o,e⟩:=h;#[h,o,(k a).2 _ _ e]
mutual
theorem A5.conv {W':Wd} (hK:W'.K=W.K) (hf:∀i c a,W.fa i c a->W'.fa i c a) (k:AH H H'):∀{p:P} {v:V},A5 W H p v->A5 W' H' p v
 |.AG,_,h| .bl _,_,h| .int _,_,h| .str _,_,h=>by unfold A5 at h ⊢;exact h
 | .fn i c,_,h=>by
   unfold A5 at h ⊢;exact h.imp λa h=>#[hf _ _ _ h.1,h.2]
 | .box t ps,v,h=>by
   unfold A5 at h ⊢;rintro⟨a,vs,e,h1,h2⟩:h;exact#[a,vs,e,h1.mono k,BV.conv hK hf k h2]
 | .tup ps,v,h=>by
   unfold A5 at h ⊢;rintro⟨a,vs,e,h1,h2⟩:h;exact#[a,vs,e,hK▸k.eJ h1,BV.conv hK hf k h2]
theorem BV.conv {W':Wd} (hK:W'.K=W.K) (hf:∀i c a,W.fa i c a->W'.fa i c a) (k:AH H H'):∀{ps:List P} {vs:List V},BV W H ps vs->BV W' H' ps vs
 |[],_,h=>by unfold BV at h ⊢;exact h
 | p::ps,vs,h=>by
   unfold BV at h ⊢;rintro⟨v,r,e,h1,h2⟩:h;exact#[v,r,e,A5.conv hK hf k h1,BV.conv hK hf k h2]
end
theorem A5.mono(k:AH H H')(h:A5 W H p v):A5 W H' p v:=A5.conv rfl (λ_ _ _ h=>h) k h
theorem Cw.mono(k:AH H H'){ps:List P}(h:Cw W H ps vs):Cw W H' ps vs:=Paired.EY h λ_ _ h=>h.mono k
theorem AH.of(h:Dd H H'):AH H H':=λa=>#[λ_ q=>h a _ q,λ_ _ q=>h a _ q]
def CQ(w:World):P->Int
 |.int i=>hashInt i
 |.str x=>hashStr w x
 |.tup ps=>reduceHash (Builtin.Tuple.tupleHashOf (ps.map λp=>hashStr w (p.BN.getD Str.empty)))
 |_=>0
def DX(a:Addr)(es:List DictEntry):HO:=.ext λh=>∃o,h.get? a=some o/\o.ExactDict/\o.data= .dict es.toArray es.length
def FG(W:Wd)(H:Hp)(q:P×P)(e:DictEntry):Prop:=e.hash=CQ W.w q.1/\(∃k,RelV k e.key/\A5 W H q.1 k)/\∃v,RelV v e.val/\A5 W H q.2 v
def fH(K:Frag)(a:Addr)(es:List DictEntry):Prop:=∃o,K.lookup a=some o/\o.ExactDict/\∃ep,o.data= .dict es.toArray ep
structure DE(W:Wd)(H:Hp)(a:Addr)(kvs:List (P×P))(es:List DictEntry):Prop where
 pr:Paired (FG W H) kvs es
 nd:(kvs.map (·.1)).Nodup
 ks:∀q∈kvs,keyOk q.1=true
 len:kvs.length<=big
 sm:(a == sysModules)=false
theorem DE.mono{kvs:List (P×P)}{es:List DictEntry}(k:AH H H')(h:DE W H a kvs es):DE W H' a kvs es:=
 #[Paired.EY h.pr λ_ _ z=>#[z.1,let⟨v,a,b⟩:=z.2.1;#[v,a,b.mono k],let⟨v,a,b⟩:=z.2.2;#[v,a,b.mono k]],h.nd,h.ks,h.len,h.sm]
def ZY(K:Frag)(H:Hp)(own bor:Addr->Prop)(o:Bool)(a:Addr)(vs:List V):Prop:=if o=true then H a=some (.lst vs)/\own a else(H a=some (.lst vs)/\bor a)\/∃ob,H a=some (.CK ob (.lst vs))
def TZ(K:Frag)(H:Hp)(own bor:Addr->Prop)(o:Bool)(a:Addr)(es:List DictEntry):Prop:=if o=true then H a=some (DX a es)/\own a else(H a=some (DX a es)/\bor a)\/fH K a es
def U0(fs:List Fd)(vs:List V):Prop:=(fs.zip vs).Pairwise λp q=>p.1.XN=true->q.1.XN=true->p.2≠q.2
def Dl(W:Wd)(H:Hp)(own bor:Addr->Prop)(o:Bool):Fd->V->Prop
 |.p x,v=>A5 W H x v
 |.d kvs,v=>∃a es,v= .ref a/\TZ W.K H own bor o a es/\DE W H a kvs es
noncomputable def AF(W:Wd)(H:Hp)(own bor:Addr->Prop):C->V->Prop
 |.p x,v=>A5 W H x v
 |.lst o ps,v=>∃a vs,v= .ref a/\ZY W.K H own bor o a vs/\Cw W H ps vs
 |.Bl o kvs,v=>∃a es,v= .ref a/\TZ W.K H own bor o a es/\DE W H a kvs es
 |.obj o fs,v=>∃a dx vs,v= .ref a/\H a=some (.ins W.lc dx (W.fl.zip vs))/\(if o=true then own a else bor a)/\Paired (Dl W H own bor o) fs vs/\U0 fs vs
def CB:HO->Bool
 |.Jp _=>true
 |_=>false
structure Ext(H H':Hp):Prop where
 but:∀b x,H b=some x->CB x=false->H' b=some x
 there:∀b x,H b=some x->∃y,H' b=some y
variable{H1 H2:Hp}{a:Addr}
theorem Ext.refl(H:Hp):Ext H H:=#[λ_ _ h _=>h,λ_ x h=>#[x,h]]
theorem Ext.trans(p:Ext H H1)(q:Ext H1 H2):Ext H H2:=#[λb x h n=>q.but b x (p.but b x h n) n,λb x h=>let⟨y,h⟩:=p.there b x h;q.there b y h]
theorem Ext.of(s:Dd H H'):Ext H H':=#[λb x h _=>s b x h,λb x h=>#[x,s b x h]]
theorem Ext.keep(p:Ext H H'):AH H H':=λa=>#[λ_ h=>p.but a _ h rfl,λ_ _ h=>p.but a _ h rfl]
theorem Ext.none(p:Ext H H')(h:H' a=none):H a=none:=by
 cases e:H a with
 |none=>rfl
 |some x=>rintro⟨y,z⟩:p.there a x e;rw[h]at z;cases z
theorem Ar(h:H a=none):Dd H (upd H a o):=λb x e=>by rw[A4 (AI e h)];exact e
def LO(H:Hp)(q:Addr×Str):Prop:=∃(oc:Obj) (u:HO) (vs:Array Value) (t:Tok),H q.1=some (.CK oc u)/\oc.data= .fields vs/\vs[1]? =some (.str q.2 t)
variable{H H':Hp}
theorem LO.keep{q:Addr×Str}(h:LO H q)(k:AH H H'):LO H' q:=let⟨oc,u,vs,t,e1,e2⟩:=h;#[oc,u,vs,t,(k _).2 _ _ e1,e2]
def Bx(W:Wd)(H:Hp):Prop:=(∀q∈W.tabs,∃ps:Array Value,H q.1=some (.Jp ps)/\TriplesOk ps.toList/\∀cv,codeAmong q.2.1 ps.toList=some cv->∃c,cv= .ref c/\LO H (c,q.2.2))/\∀q∈W.NG,LO H q
variable{W:Wd}
theorem Bx.keep(h:Bx W H)(k:AH H H')(n:∀b ps,H b=some (.Jp ps)->H' b=some (.Jp ps)):Bx W H':=
 ⟨λq hq=>
   let⟨ps,a,b,c⟩:=h.1 q hq
   #[ps,n _ ps a,b,λf e=>let⟨d,e1,e2⟩:=c f e;#[d,e1,e2.keep k]],λq hq=>(h.2 q hq).keep k⟩
theorem Bx.same(h:Bx W H)(s:Dd H H'):Bx W H':=h.keep (AH.of s) λ_ ps e=>s _ _ e
section
variable{own own' bor bor':Addr->Prop}
theorem Dl.mono{o:Bool}{d:Fd}(h:Dl W H own bor o d v)(k:AH H H')(b:∀a x,own a->H a=some x->CB x=false->H' a=some x/\own' a)(c:∀a x,bor a->H a=some x->CB x=false->H' a=some x/\bor' a):Dl W H' own' bor' o d v:=by
 cases d with
 |p x=>exact A5.mono k h
 |d kvs=>
   rintro⟨a,es,e,h1,h2⟩:h;refine#[a,es,e,?_,h2.mono k];unfold TZ at h1 ⊢;cases o with
   |true=>exact b a _ h1.2 h1.1 rfl
   |false=>exact h1.imp (λh=>c a _ h.2 h.1 rfl) id
theorem Dl.borrow{o:Bool}{d:Fd}(h:Dl W H own bor o d v)(b:∀a,own a->bor a):Dl W H own' bor false d v:=by
 cases d with
 |p x=>exact h
 |d kvs=>
   rintro⟨a,es,e,h1,h2⟩:h;refine#[a,es,e,?_,h2];cases o with
   |true=>exact .inl #[h1.1,b a h1.2]
   |false=>exact h1
theorem AF.mono(h:AF W H own bor c v)(k:AH H H')(b:∀a x,own a->H a=some x->CB x=false->H' a=some x/\own' a)(d:∀a x,bor a->H a=some x->CB x=false->H' a=some x/\bor' a):AF W H' own' bor' c v:=by
 cases c with
 |p x=>exact A5.mono k h
 |obj o fs=>
   rintro⟨a,dx,vs,e,h1,h2,g⟩:h
   have f:H' a=some (.ins W.lc dx (W.fl.zip vs))/\if o=true then own' a else bor' a:=by
    cases o with
    |true=>exact b a _ h2 h1 rfl
    |false=>exact d a _ h2 h1 rfl
   exact#[a,dx,vs,e,f.1,f.2,Paired.EY g.1 λ_ _ z=>z.mono k b d,g.2]
 |lst o ps=>
   rintro⟨a,vs,e,h1,h2⟩:h;refine#[a,vs,e,?_,Cw.mono k h2];unfold ZY at h1 ⊢;cases o with
   |true=>exact b a _ h1.2 h1.1 rfl
   |false=>exact h1.imp (λh=>d a _ h.2 h.1 rfl) λ⟨i,h⟩=>#[i,(k a).2 _ _ h]
 |Bl o kvs=>
   rintro⟨a,es,e,h1,h2⟩:h;refine#[a,es,e,?_,h2.mono k];unfold TZ at h1 ⊢;cases o with
   |true=>exact b a _ h1.2 h1.1 rfl
   |false=>exact h1.imp (λh=>d a _ h.2 h.1 rfl) id
theorem AF.ext(h:AF W H own bor c v)(e:Ext H H')(b:∀a,own a->own' a)(d:∀a,bor a->bor' a):AF W H' own' bor' c v:=
 h.mono e.keep (λa x p q n=>#[e.but a x q n,b a p]) λa x p q n=>#[e.but a x q n,d a p]
theorem AF.borrow{c:C}(h:AF W H own bor c v)(b:∀a,own a->bor a):AF W H own' bor c.bor v:=by
 cases c with
 |p x=>exact h
 |obj o fs=>
   rintro⟨a,dx,vs,e,h1,h2,d⟩:h;refine#[a,dx,vs,e,h1,?_,Paired.EY d.1 λ_ _ z=>?_,d.2]
   .cases o with
    |true=>exact b a h2
    |false=>exact h2
   .exact z.borrow b
 |lst o ps=>
   rintro⟨a,vs,e,h1,h2⟩:h;refine#[a,vs,e,?_,h2];cases o with
   |true=>exact .inl #[h1.1,b a h1.2]
   |false=>exact h1
 |Bl o kvs=>
   rintro⟨a,es,e,h1,h2⟩:h;refine#[a,es,e,?_,h2];cases o with
   |true=>exact .inl #[h1.1,b a h1.2]
   |false=>exact h1
abbrev Dk(W:Wd)(H:Hp):C->V->Prop:=AF W H (λ_=>True) (λ_=>True)
theorem AF.rd(h:AF W H own bor c v):Dk W H c v:=h.ext (Ext.refl H) (λ_ _=>trivial) λ_ _=>trivial
end
structure Kr(W:Wd)(B:Addr->Prop)(H:Hp)(U:Env)(Y:St):Prop where
 len:Y.length=U.length
 tb:Bx W H
 FQ:∀a,B a->∃x,H a=some x
 get:∀i c,A8 U i=some c->∃v,Y[i]? =some (some v)/\AF W H B B c v
section
variable{B:Addr->Prop}{U:Env}{Y:St}
theorem Kr.ext(h:Kr W B H U Y)(e:Ext H H')(t:Bx W H'):Kr W B H' U Y:=
 #[h.len,t,λa b=>let⟨x,q⟩:=h.FQ a b;e.there a x q,λi c q=>let⟨v,f,d⟩:=h.get i c q;#[v,f,d.ext e (λ_ z=>z) λ_ z=>z]]
abbrev Rp(α β:Type):=(Addr->Prop)->Hp->Hp->α->β->Prop
section
variable (W:Wd){α β:Type}
def D3(rep:Rp α β)(B:Addr->Prop)(H:Hp)(r:Res α)(Q:β->Hp->Prop):Prop:=match r with
 |.stuck=>False
 |.ok a=>∀b H',Ext H H'->Bx W H'->rep B H H' a b->Q b H'
def tG(rep:Rp α β)(F:Env->Res α):St->Hp->(β->Hp->Prop)->Prop:=λY H Q=>∃U B,Kr W B H U Y/\D3 W rep B H (F U) Q
def rV:Rp C V:=λB H H' c v=>AF W H' (λa=>H a=none) B c v
def rB:Rp Bool Bool:=λ_ _ _ b b'=>b=b'
def BB(H:Hp)(own:Nat->Addr->Prop)(bor:Addr->Prop):Nat->List C->List V->Prop
 |_,[],vs=>vs=[]
 |j,c::cs,vs=>∃v r,vs=v::r/\AF W H (own j) bor c v/\BB H own bor (j+1) cs r
def NP:Rp (List C) (List V):=λB H H' cs vs=>∃O:Addr->Nat,BB W H' (λj a=>H a=none/\O a=j) B 0 cs vs
def Up:Rp (List P) (List V):=λ_ _ H' ps vs=>Cw W H' ps vs
end
variable{α β γ δ:Type}
def QT(rep:Rp α β):Prop:=∀B H H1 H' a b,Ext H H1->rep B H1 H' a b->rep B H H' a b
theorem Au:QT (rV W):=λ_ _ _ _ _ _ e h=>h.ext (Ext.refl _) (λ_=>e.none) λ_ z=>z
theorem Ej:QT rB:=λ_ _ _ _ _ _ _ h=>h
theorem JG:QT (Up W):=λ_ _ _ _ _ _ _ h=>h
theorem BB.imp{own own':Nat->Addr->Prop}{bor bor':Addr->Prop}(e:Ext H H')(b:∀j a,own j a->own' j a)(c:∀a,bor a->bor' a):∀{j:Nat} {cs:List C} {vs:List V},BB W H own bor j cs vs->BB W H' own' bor' j cs vs
 |_,[],_,h=>h
 |j,_::_,_,⟨v,r,q,h1,h2⟩=>#[v,r,q,h1.ext e (b j) c,BB.imp e b c h2]
variable{rep:Rp α β}
theorem D3.later(an:QT rep){r:Res α}{Q:β->Hp->Prop}(h:D3 W rep B H r Q)(e:Ext H H1):D3 W rep B H1 r Q:=by
 cases r with
 |stuck=>exact h
 |ok a=>exact λb H' e1 t1 c=>h b H' (e.trans e1) t1 (an _ _ _ _ _ _ e c)
variable{rA:Rp α β}
theorem D3.step{rep:Rp γ δ}(an:QT rep){r:Res α}{G:α->Res γ}{Q:δ->Hp->Prop}{K:β->Hp->Prop}(h:D3 W rep B H (r.bind G) Q)
 (k:∀a b H1,r= .ok a->Ext H H1->Bx W H1->rA B H H1 a b->D3 W rep B H1 (G a) Q->K b H1):D3 W rA B H r K:=by
 cases r with
 |stuck=>exact h
 |ok a=>exact λb H1 e1 t1 c=>k a b H1 rfl e1 t1 c (D3.later an (r:=G a) h e1)
theorem D3.Dn{rep:Rp γ δ}{r:Res α}{G:α->Res γ}{Q:δ->Hp->Prop}{K:β->Hp->Prop}(h:D3 W rep B H (r.bind G) Q)(f:Ext H H1)
 (k:∀a b H2,Ext H1 H2->Bx W H2->rA B H1 H2 a b->D3 W rep B H (G a) Q->K b H2):D3 W rA B H1 r K:=by
 cases r with
 |stuck=>exact h
 |ok a=>exact λb H2 e1 t1 c=>k a b H2 e1 t1 c h
theorem D3.imp{r:Res α}{Q Q':β->Hp->Prop}(h:D3 W rep B H r Q)(k:∀b H',Q b H'->Q' b H'):D3 W rep B H r Q':=by
 cases r with
 |stuck=>exact h
 |ok a=>exact λb H1 e1 t1 c=>k _ _ (h b H1 e1 t1 c)
theorem D3.of{o:Option α}{Q:β->Hp->Prop}(h:D3 W rep B H (Res.of o) Q):∃a,o=some a/\D3 W rep B H (.ok a) Q:=by
 cases o with
 |none=>exact h.elim
 |some a=>exact#[a,rfl,h]
theorem D3.BP{o:Option γ}{G:γ->Res α}{Q:β->Hp->Prop}(h:D3 W rep B H ((Res.of o).bind G) Q):∃a,o=some a/\D3 W rep B H (G a) Q:=by
 cases o with
 |none=>exact h.elim
 |some a=>exact#[a,rfl,h]
section
variable (W:Wd)
def Cc(H:Hp)(c:C)(Q:VK):Prop:=∀v H',Dd H H'->AF W H' (λa=>H a=none) (λ_=>False) c v->Q v H'
def AV(g:C->C->Option C):R2:=λx y H Q=>∃c1 c2 c,Dk W H c1 x/\Dk W H c2 y/\g c1 c2=some c/\Cc W H c Q
def BZ(g:C->Option C):V->Hp->VK->Prop:=λx H Q=>∃c1 c,Dk W H c1 x/\g c1=some c/\Cc W H c Q
end
theorem Cc.plain{Q:VK}(q:Cc W H (.p x) Q)(r:A5 W H x v):Q v H:=q v H (Dd.refl H) r
variable{vs:List V}
theorem Cc.list{ps:List P}{Q:VK}(q:Cc W H (.lst true ps) Q)(r:Cw W H ps vs)(p:Addr)(b:H p=none):Q (.ref p) (upd H p (.lst vs)):=
 q (.ref p) _ (Ar b) #[p,vs,rfl,#[A6,b],r.mono (AH.of (Ar b))]
theorem Cc.tup{ps:List P}{Q:VK}(q:Cc W H (.p (.tup ps)) Q)(r:Cw W H ps vs)(p:Addr)(b:H p=none):Q (.ref p) (upd H p (.tup vs)):=
 q (.ref p) _ (Ar b) (A9.mpr #[p,vs,rfl,D2.of A6,r.mono (AH.of (Ar b))])
theorem D3.new{Q:VK}(h:D3 W (rV W) B H (.ok c) Q)(t:Bx W H):Cc W H c Q:=λv H' s r=>h v H' (.of s) (t.same s) (r.ext (Ext.refl _) (λ_ z=>z) λ_ z=>z.elim)
variable{F G:Env->Res C}{Q:VK}
theorem U8{g:C->Option C}(h:tG W (rV W) (λU=>(F U).bind λx=>Res.of (g x)) Y H Q):tG W (rV W) F Y H λx H1=>BZ W g x H1 Q:=by
 rintro⟨U,B,R,d⟩:h;refine#[U,B,R,d.step Au λc v H1 _ e1 t1 b h1=>?_];rintro⟨r,e,h1⟩:h1.of;exact#[c,r,b.rd,e,h1.new t1]
theorem Jq{g:C->C->Option C}(h:tG W (rV W) (λU=>(F U).bind λx=>(G U).bind λy=>Res.of (g x y)) Y H Q):Vi (AV W g) (tG W (rV W) F) (tG W (rV W) G) Y H Q:=by
 rintro⟨U,B,R,f⟩:h;refine#[U,B,R,f.step Au λc v H1 _ e1 t1 e h1=>#[U,B,R.ext e1 t1,h1.step Au λd u H2 _ e2 t2 b h2=>?_]];rintro⟨r,i,h2⟩:h2.of;exact#[c,d,r,e.rd.ext e2 (λ_ z=>z) λ_ z=>z,b.rd,i,h2.new t2]
variable{Q':List V->Hp->Prop}
theorem M0(h:tG W (NP W) (λ_=>.ok []) Y H Q'):Ob Y H Q':=by
 rintro⟨U,B,R,b⟩:h;exact b [] H (Ext.refl H) R.tb #[λ_=>0,rfl]
theorem BB.shift{own:Nat->Addr->Prop}{bor:Addr->Prop}:∀{j:Nat} {cs:List C} {vs:List V},BB W H (λj=>own (j + 1)) bor j cs vs->BB W H own bor (j + 1) cs vs
 |_,[],_,h=>h
 |_,_::_,_,⟨v,r,q,h1,h2⟩=>#[v,r,q,h1,BB.shift h2]
open Classical in
theorem Gg {Gs:Env->Res (List C)} (h:tG W (NP W) (λU=>(F U).bind λc=>(Gs U).bind λcs=>.ok (c::cs)) Y H Q'):Jt (tG W (rV W) F) (tG W (NP W) Gs) Y H Q':=by
 rintro⟨U,B,R,e⟩:h;refine#[U,B,R,e.Dn (Ext.refl H) λc v H1 e1 t1 d h1=>#[U,B,R.ext e1 t1,h1.Dn e1 λcs vs H2 e2 t2 ⟨O,b⟩ h2=>?_]];refine h2 (v::vs) H2 (e1.trans e2) t2 #[λa=>if H1 a=none then O a+1 else 0,v,vs,rfl,?_,BB.shift (b.imp (Ext.refl _) (λj a z=>#[e1.none z.1,?_]) λ_ z=>z)]
 .refine AF.mono d e2.keep (λa x p q n=>#[e2.but a x q n,p,?_]) λa x p q n=>#[e2.but a x q n,p]
  exact iN λz=>by rw[q]at z;cases z
 .show(if H1 a=none then O a+1 else 0)=j+1;rw[iP z.1,z.2]
end
end Nv
namespace Nv
open PySem L2 PyProof.Rows
variable{X:Cx}{W:Wd}
theorem Ai{t t':TE}(h:PE X e t)(k:∀Y H Q,t' Y H Q->t Y H Q):PE X e t':=λp0 s Y H Q I z=>h p0 s Y H Q I (k Y H Q z)
theorem Gr{t t':TT}(h:PT X e t)(k:∀Y H Q,t' Y H Q->t Y H Q):PT X e t':=λp0 s Y H Q I z=>h p0 s Y H Q I (k Y H Q z)
theorem IA{t t':TA}(h:PA X e t)(k:∀Y H Q,t' Y H Q->t Y H Q):PA X e t':=λpos p0 s Y H Q I z=>h pos p0 s Y H Q I (k Y H Q z)
variable{t':TS}
theorem C0{e:Stmt}{t:TS}(h:PS X e t)(k:∀D Y H,t' D Y H->t D Y H):PS X e t':=λp0 s Y H D I z=>h p0 s Y H D I (k D Y H z)
theorem Mc{e:List Stmt}{t:TS}(h:NO X e t)(k:∀D Y H,t' D Y H->t D Y H):NO X e t':=λp0 s Y H D I z=>h p0 s Y H D I (k D Y H z)
def XD(t:TE):TE:=λY H Q=>t Y H λv H1=>Q v H1\/∃a xs,v= .ref a/\H1 a=some (.lst xs)/\∀o,Q v (upd H1 a (.CK o (.lst xs)))
theorem OV{t:TE}(h:PE X e t):PE X e (XD t):=by
 intro p0 s Y H Q I z;refine AS (h p0 s Y H _ I z) λw s1 ⟨v,H1,d,r,q⟩=>?_
 rcases q with q|⟨a,xs,e1,e2,q⟩
 .exact#[v,H1,d,r,q]
 .have Aj:=d.Aj a _ e2;have c:=Aj;rintro⟨_,its,n,_,f⟩:c;exact#[v,upd H1 a (.CK _ (.lst xs)),d.write (x:=a) (e:=a) (t':=s1.toks) (by rw[e2];trivial) (.inl rfl) (λb u g q=>q) #[_,f] #[f,Aj],r,q _]
variable{Y:L2.St}{H:Hp}{F:Env->Res C}
variable{H1:Hp}
theorem IX{u:HO}(e:Ext H H1)(c:H a=none):Ext H (upd H1 a u'):=
 #[λb x h n=>by rw[A4 (AI h c)];exact e.but b x h n,λb x h=>by rw[A4 (AI h c)];exact e.there b x h]
theorem BR{u:HO}(d:H1 a=some u)(f:∀xs,u≠.tup xs)(e:∀o w,u≠.CK o w):AH H1 (upd H1 a u'):=λc=>by
 by_cases b:c=a
 .subst b;exact#[λxs q=>(by rw[d]at q;cases q;exact absurd rfl (f _)),λo w q=>(by rw[d]at q;cases q;exact absurd rfl (e _ _))]
 .rw[A4 b];exact#[λ_ q=>q,λ_ _ q=>q]
theorem Ij{u:HO}(t:Bx W H1)(c:H1 a=some u)(f:∀xs,u≠.tup xs)(d:∀o w,u≠.CK o w)(g:CB u=false):Bx W (upd H1 a u'):=
 t.keep (BR c f d) λb ps e=>by rw[A4 λz=>by rw[z,c]at e;cases e;cases g];exact e
variable{Q':List V->Hp->Prop}
theorem Vc(h:tG W (Up W) (λ_=>.ok []) Y H Q'):Ob Y H Q':=by
 rintro⟨U,B,R,a⟩:h;exact a [] H (Ext.refl H) R.tb .nil
variable{Gs:Env->Res (List P)}
theorem D3.UQ{B:Addr->Prop}(R:Kr W B H1 U Y)(a:A5 W H1 x v)(h:D3 W (Up W) B H1 ((Gs U).bind λxs=>.ok (x::xs)) Q'):tG W (Up W) Gs Y H1 λvs H2=>Q' (v::vs) H2:=
 #[U,B,R,h.Dn (Ext.refl _) λxs vs H2 e2 t2 b h2=>h2 (v::vs) H2 e2 t2 (.cons (a.mono e2.keep) b)]
theorem UL{B:Addr->Prop}{c:C}{x:P}(h:c.CK=some x)(r:rV W B H H1 c v):A5 W H1 x v\/∃a xs,v= .ref a/\H1 a=some (.lst xs)/\H a=none/\∀o,A5 W (upd H1 a (.CK o (.lst xs))) x v:=by
 cases c with
 |p y=>cases h;exact .inl r
 |lst o ps=>
   cases o with
   |false=>cases h
   |true=>
     cases h;rintro⟨a,vs,rfl,⟨k1,k2⟩,b⟩:r;exact .inr #[a,vs,rfl,k1,k2,λo=>CN.mpr #[a,vs,rfl,#[rfl,o,A6],b.mono (BR k1 (λ_ z=>nomatch z) λ_ _ z=>nomatch z)]]
 |_=>cases h
theorem Rm(h:tG W (Up W) (λU=>(F U).bind λc=>(Res.of c.CK).bind λx=>(Gs U).bind λxs=>.ok (x::xs)) Y H Q'):Jt (XD (tG W (rV W) F)) (tG W (Up W) Gs) Y H Q':=by
 rintro⟨U,B,R,g⟩:h;refine#[U,B,R,g.Dn (Ext.refl H) λc v H1 e1 t1 d h1=>?_];rintro⟨x,ex,h1⟩:h1.BP;rcases UL ex d with r|⟨a,xs,rfl,b,f,e⟩
 .exact .inl (D3.UQ (R.ext e1 t1) r (h1.later JG e1))
 .refine .inr #[a,xs,rfl,b,λo=>?_];have e2:Ext H (upd H1 a (.CK o (.lst xs))):=IX (u:=.lst xs) e1 f;exact D3.UQ (R.ext e2 (Ij t1 b (λ_ z=>nomatch z) (λ_ _ z=>nomatch z) rfl)) (e o) (h1.later JG e2)
theorem Yz{F G:Env->Res Bool}{Q:Bool->Hp->Prop}(h:tG W rB (λU=>(F U).bind λk=>if k then G U else .ok false) Y H Q):YF (tG W rB F) (tG W rB G) Y H Q:=by
 rintro⟨U,B,R,b⟩:h;refine#[U,B,R,b.step Ej λk c H1 _ e1 t1 a h1=>?_];cases a;cases k with
 |true=>exact#[U,B,R.ext e1 t1,h1]
 |false=>exact h1 false H1 (Ext.refl _) t1 rfl
theorem aK{F G:Env->Res Bool}{Q:Bool->Hp->Prop}(h:tG W rB (λU=>(F U).bind λk=>if k then .ok true else G U) Y H Q):cU (tG W rB F) (tG W rB G) Y H Q:=by
 rintro⟨U,B,R,b⟩:h;refine#[U,B,R,b.step Ej λk c H1 _ e1 t1 a h1=>?_];cases a;cases k with
 |false=>exact#[U,B,R.ext e1 t1,h1]
 |true=>exact h1 true H1 (Ext.refl _) t1 rfl
theorem Yv{F:Env->Res Bool}{Q:Bool->Hp->Prop}(h:tG W rB (λU=>(F U).bind λk=>.ok (!k)) Y H Q):YC (tG W rB F) Y H Q:=by
 rintro⟨U,B,R,b⟩:h;refine#[U,B,R,b.step Ej λk c H1 _ e1 t1 a h1=>?_];cases a;exact h1 _ H1 (Ext.refl _) t1 rfl
theorem FF{c:C}{k:Bool}(h:c.EN =some k):c= .p (.bl k):=by
 cases c with
 |p x=>cases x<;>first|(cases h;rfl)|cases h
 |_=>cases h
theorem JF{B:Addr->Prop}{k:Bool}:rV W B H H1 (.p (.bl k)) (.bl k):=(Cz (W:=W) (H:=H1)).mpr rfl
theorem Ei{own bor:Addr->Prop}{k:Bool}(h:AF W H1 own bor (.p (.bl k)) v):v= .bl k:=(Cz (W:=W) (H:=H1)).mp h
theorem Vg{F G:Env->Res C}{Q:VK}(h:tG W (rV W) (λU=>(F U).bind λc=>(Res.of c.EN).bind λk=>if k then G U else .ok (.p (.bl false))) Y H Q):Ug (tG W (rV W) F) (tG W (rV W) G) Y H Q:=by
 rintro⟨U,B,R,b⟩:h;refine#[U,B,R,b.step Au λc v H1 _ e1 t1 a h1=>?_];rintro⟨k,d,h2⟩:h1.BP;clear h1;cases FF d;refine#[k,Ei a,?_];cases k with
 |true=>exact#[U,B,R.ext e1 t1,h2]
 |false=>exact h2 _ H1 (Ext.refl _) t1 JF
theorem Yu{F G:Env->Res C}{Q:VK}(h:tG W (rV W) (λU=>(F U).bind λc=>(Res.of c.EN).bind λk=>if k then .ok (.p (.bl true))else G U) Y H Q):YB (tG W (rV W) F) (tG W (rV W) G) Y H Q:=by
 rintro⟨U,B,R,b⟩:h;refine#[U,B,R,b.step Au λc v H1 _ e1 t1 a h1=>?_];rintro⟨k,d,h2⟩:h1.BP;clear h1;cases FF d;refine#[k,Ei a,?_];cases k with
 |false=>exact#[U,B,R.ext e1 t1,h2]
 |true=>exact h2 _ H1 (Ext.refl _) t1 JF
theorem Vb{Q:VK}(h:tG W (rV W) (λU=>(F U).bind λc=>(Res.of c.EN).bind λk=>.ok (.p (.bl (!k)))) Y H Q):Uc (tG W (rV W) F) Y H Q:=by
 rintro⟨U,B,R,b⟩:h;refine#[U,B,R,b.step Au λc v H1 _ e1 t1 a h1=>?_];rintro⟨k,d,h2⟩:h1.BP;clear h1;cases FF d;exact#[k,Ei a,h2 _ H1 (Ext.refl _) t1 JF]
theorem Yx{B:Env->Res Bool}{F G:Env->Res C}{Q:VK}(h:tG W (rV W) (λU=>(B U).bind λk=>if k then F U else G U) Y H Q):cW (tG W rB B) (tG W (rV W) F) (tG W (rV W) G) Y H Q:=by
 rintro⟨U,Bo,R,b⟩:h;refine#[U,Bo,R,b.step Au λk c H1 _ e1 t1 a h1=>?_];cases a;cases k with
 |true=>exact#[U,Bo,R.ext e1 t1,h1]
 |false=>exact#[U,Bo,R.ext e1 t1,h1]
theorem U9{f g:C->C->Option C}{o n i:Env->Res C}{Q:VK}(h:tG W (rV W) (λU=>(o U).bind λx=>(n U).bind λy=>(Res.of ((f x y).bind C.EN)).bind λk=>if k then(i U).bind λz=>Res.of (g y z)else .ok (.p (.bl false))) Y H Q):
 KA (AV W f) (AV W g) (tG W (rV W) o) (tG W (rV W) n) (tG W (rV W) i) Y H Q:=by
 rintro⟨U,B,R,D⟩:h;refine#[U,B,R,D.step Au λc v H1 _ e1 t1 A h1=>#[U,B,R.ext e1 t1,h1.step Au λd u H2 _ e2 t2 j h2=>?_]];rintro⟨k,e,l⟩:h2.BP;clear h2;rintro⟨c',G,e⟩:Option.bind_eq_some_iff.mp e;cases FF e;refine#[c,d,_,A.rd.ext e2 (λ_ z=>z) λ_ z=>z,j.rd,G,λw m s3 t=>#[k,Ei t,?_]];have a:=Ext.of s3;have t3:=t2.same s3;cases k with
 |true=>
   show tG W (rV W) i Y m _;refine#[U,B,(R.ext (e1.trans e2) t2).ext a t3,(l.later Au a).step Au λz w J _ I q s b=>?_];rintro⟨r,E,b⟩:b.of;exact#[d,z,r,j.rd.ext (a.trans I) (λ_ z=>z) λ_ z=>z,s.rd,E,b.new q]
 |false=>exact l _ m a t3 JF
variable{α:Type}
theorem or_some{x y:Option α}{z:α}(h:(x <|> y)=some z):x=some z\/y=some z:=by
 cases x with
 |none=>exact .inr h
 |some a=>exact .inl h
theorem Bw:big<=sizeLine:=by decide
theorem Ab{β:Type}{x:Option α}{f:α->Option β}{b:β}(h:x.bind f=some b):∃a,x=some a/\f a=some b:=Option.bind_eq_some_iff.mp h
theorem AU{β:Type}{x:Option α}{f:α->β}{b:β}(h:x.map f=some b):∃a,x=some a/\f a=b:=oM h
theorem C.BO{c:C}{x:P}(h:c.Hb =some x):c= .p x:=by cases c<;>cases h;rfl
theorem C.AW{c:C}{i:Int}(h:c.int? =some i):c= .p (.int i):=let⟨_,h1,h2⟩:=Ab h;by rw[C.BO h1,P.AW h2]
theorem C.Bt{c:C}{i:Str}(h:c.BN =some i):c= .p (.str i):=let⟨_,h1,h2⟩:=Ab h;by rw[C.BO h1,P.Bt h2]
theorem C.Bs{c:C}{i:List P}(h:c.CL =some i):c= .p (.tup i):=let⟨_,h1,h2⟩:=Ab h;by rw[C.BO h1,P.Bs h2]
section
variable{v:V}{own bor:Addr->Prop}
theorem GY(h:AF W H own bor (.p x) v):A5 W H x v:=h
theorem AZ(h:AF W H own bor (.p (.int i)) v):v= .int i:=Aa.mp (GY h)
theorem BI(h:AF W H own bor (.p (.str i)) v):v= .str i:=AJ.mp (GY h)
theorem Gn(h:AF W H own bor (.p .AG) v):v= .AG:=Dp.mp (GY h)
theorem CH{ps:List P}(h:AF W H own bor (.p (.tup ps)) v):∃a vs,v= .ref a/\D2 W.K H a vs/\Cw W H ps vs:=A9.mp (GY h)
theorem SI{x:P}{ps:List P}(h:x.PB =some ps):x= .box 0 ps:=by
 rintro⟨r,h1,h2⟩:Ab h;split at h2
 .rename_i h0;cases h2;rw[P.Qz h1,h0]
 .cases h2
theorem Bn{c:C}{ps:List P}(e:c.FK =some ps)(h:AF W H own bor c v):∃a vs,v= .ref a/\Rd H a (.lst vs)/\Cw W H ps vs:=by
 cases c with
 |p x=>
   cases SI e;rintro⟨a,vs,e1,e2,b⟩:CN.mp (GY h);rintro⟨_,o,e2⟩:e2;exact#[a,vs,e1,.inr #[o,e2],b]
 |lst o qs=>
   cases e;rintro⟨a,vs,e1,e2,b⟩:h;refine#[a,vs,e1,?_,b];cases o with
   |true=>exact .inl e2.1
   |false=>exact e2.imp (·.1) id
 |Bl o kvs=>cases e
 |obj _ _=>cases e
theorem EU{c:C}{ps:List P}(e:c.seq? =some ps)(h:AF W H own bor c v):∃a vs,v= .ref a/\(DP W.K H a vs\/D2 W.K H a vs)/\Cw W H ps vs:=by
 rcases or_some e with e|e
 .obtain⟨a,vs,e1,e2,b⟩:=Bn e h;exact#[a,vs,e1,.inl (.inl e2),b]
 .cases C.Bs e;rintro⟨a,vs,e1,e2,b⟩:CH h;exact#[a,vs,e1,.inr e2,b]
theorem Cc.bl{b:Bool}{Q:VK}(q:Cc W H (bC b) Q):Q (.bl b) H:=q.plain (Cz.mpr rfl)
theorem Cc.int{Q:VK}(q:Cc W H (.p (.int b)) Q):Q (.int b) H:=q.plain (Aa.mpr rfl)
theorem Cc.str{Q:VK}(q:Cc W H (.p (.str b)) Q):Q (.str b) H:=q.plain (AJ.mpr rfl)
end
theorem BG.or{f:Value->Value->Sem Value}{g g':C->C->Option C}(h:BG X f (AV W g))(h':BG X f (AV W g')):BG X f (AV W λa b=>g a b <|> g' a b):=by
 rintro p0 s Y H x y v u Q I i d ⟨k,j,c,h1,h2,e,q⟩
 rcases or_some e with z|z
 .exact h p0 s Y H x y v u Q I i d #[k,j,c,h1,h2,z,q]
 .exact h' p0 s Y H x y v u Q I i d #[k,j,c,h1,h2,z,q]
theorem EW{f:Value->Value->Sem Value}{g:Int->Int->Option Int}{r:R2}(h:BG X f r)(d:∀i j k H Q,g i j=some k->Q (.int k) H->r (.int i) (.int j) H Q):BG X f (AV W (Aw g)):=by
 rintro p0 s Y H x y v u Q I b a ⟨p,o,c,h1,h2,e,q⟩
 rintro⟨i,n,e⟩:Ab e;rintro⟨j,m,e⟩:Ab e;rintro⟨k,l,rfl⟩:AU e;cases C.AW n;cases C.AW m;cases AZ h1;cases AZ h2;exact h p0 s Y H _ _ v u Q I b a (d i j k H Q l q.int)
theorem A3{c:Prop}[Decidable c]{a b:α}(h:(if c then some a else none)=some b):c/\a=b:=by
 split at h
 .exact#[‹_›,Option.some.inj h]
 .cases h
theorem Z9:BG X (binaryOp .Sub) (AV W (Aw ET)):=EW Wh λi j k H Q e q=>by cases e;exact#[i,j,rfl,rfl,q]
theorem Zd:BG X (binaryOp .Mod) (AV W (Aw Du)):=EW Wk λi j k H Q e q=>by rintro⟨h,rfl⟩:A3 e;exact#[i,j,rfl,rfl,h,q]
theorem Wt:BG X (binaryOp .FloorDiv) (AV W (Aw EB)):=EW Se λi j k H Q e q=>by rintro⟨h,rfl⟩:A3 e;exact#[i,j,rfl,rfl,h,q]
theorem Za:BG X (binaryOp .Pow) (AV W (Aw JH)):=EW Wi λi j k H Q e q=>by rintro⟨h,rfl⟩:A3 e;exact#[i,j,rfl,rfl,#[h.1,by lia,h.2.2],q]
theorem Zf(hK:W.K=X.K):BG X (binaryOp .Add) (AV W Ad):=by
 refine BG.or (EW Wn λi j k H Q e q=>by cases e;exact#[i,j,rfl,rfl,q]) (BG.or ?_ ?_)
 .rintro p0 s Y H x y v u Q I f d ⟨p,o,c,h1,h2,e,q⟩
  rintro⟨i,h,e⟩:Ab e;rintro⟨j,g,e⟩:Ab e;rintro⟨hl,rfl⟩:A3 e;cases C.Bt h;cases C.Bt g;cases BI h1;cases BI h2;exact KU p0 s Y H _ _ v u Q I f d #[i,j,rfl,rfl,Nat.le_trans hl Bw,q.str]
 .rintro p0 s Y H x y v u Q I f d ⟨p,o,c,h1,h2,e,q⟩
  rintro⟨i,h,e⟩:Ab e;rintro⟨j,g,e⟩:Ab e;rintro⟨z,n,rfl⟩:AU e;rintro⟨hl,rfl⟩:A3 n;rintro⟨a,vs,rfl,s1,m⟩:Bn h h1;rintro⟨b,ws,rfl,s2,l⟩:Bn g h2;refine Wm p0 s Y H _ _ v u Q I f d #[a,b,vs,ws,rfl,rfl,s1,s2,?_,q.list (Pd.append m l)];rw[<-Paired.length m,<-Paired.length l,<-lA];exact Nat.le_trans hl Bw
end Nv
namespace Nv
open PySem
structure Ct where
 N:List Str
 sc:Scope
 fns:List (Str×Nat)
 NS:List (Str×Nat)
 NR:List (Str×Nat)
 cls:List (Str×Nat)
 fld:List Str
 gl:List (Str×C)
 df:Bool
 Lc:List (Pos×Nat)
 lt:Nat->Nat->T->Bool
def Gx(x:Str):Bool:=!(x == ("__debug__":Str)) && !(x == ("__classdict__":Str)) && decide (x≠"__name__")
def seen:Option NameKind->Bool
 |some .local=>true
 |some .cell=>true
 |some .free=>true
 |_=>false
def Ct.slot(ct:Ct)(x:Str):Option Nat:=if Gx x && seen (ct.sc.names.lookup x)then ct.N.idxOf? x else none
def bound(df:Bool):Option NameKind->Bool
 |some .local=>true
 |some .cell=>df
 |_=>false
def Ct.Cy(ct:Ct)(x:Str):Option Nat:=if Gx x && bound ct.df (ct.sc.names.lookup x)then ct.N.idxOf? x else none
def Ct.glob(ct:Ct)(x:Str):Bool:=Gx x && decide (ct.sc.names.lookup x=some .globalImplicit)
def Ct.name(ct:Ct)(x:Str):Option T:=match ct.slot x with
 |some i=>some (.var i)
 |none=>if ct.glob x then((ct.gl.lookup x).map .cst <|> (ct.fns.lookup x).map λn=>.cst (.p (.fn n [])))else none
def Ja:List Str:=["len","list","tuple","all","abs","int","bool","str","range","enumerate","reversed","set","isinstance","any","zip","max","min"]
def Ct.own(ct:Ct)(x:Str):Bool:=ct.glob x && Ja.contains x && (ct.gl.lookup x).isNone && (ct.fns.lookup x).isNone && (ct.cls.lookup x).isNone
def bM:Operator->Option (C->C->Option C)
 |.Add=>some Ad| .Sub=>some (Aw ET)| .Mult=>some mulC| .Mod=>some (Aw Du)| .FloorDiv=>some (Aw EB)| .Pow=>some (Aw JH)|_=>none
def Nn:CmpOp->C->C->Option C
 |.Eq=>Bd| .NotEq=>Eo| .Lt=>L7| .LtE=>Lb| .Gt=>Ny| .GtE=>ZD| .Is=>Fw| .IsNot=>E6| .In=>Nu| .NotIn=>JP
def Ts(x:T):List CmpOp->List T->Option T
 |[o],[y]=>some (.A1 (Nn o) x y)
 |[o1,o2],[y,z]=>some (.Tu (Nn o1) (Nn o2) x y z)
 |_,_=>none
def GZ:Expr->Option Str
 |.Name x _=>some x
 |_=>none
def Uv:Expr->Bool
 |.Name _ _=>true
 |.Attribute e _ _=>(GZ e).isSome
 |_=>false
def Tt:Expr->Option (Expr×List Expr×List Keyword×Pos)
 |.Call f as k p=>some (f,as,k,p)
 |_=>none
def QH:Expr->Option (Expr×Str×Pos)
 |.Attribute e m p=>some (e,m,p)
 |_=>none
def WL:Expr->Option (Arguments×Expr×Scope×Pos)
 |.Lambda a b sc p=>some (a,b,sc,p)
 |_=>none
def IL:Expr->Bool
 |.Slice _ _ _ _=>true
 |_=>false
def Cb:Expr->Bool
 |.Tuple _ _ _=>true
 |_=>false
def BF:Expr->Bool
 |.ListComp _ _ _ _=>true
 |.SetComp _ _ _ _=>true
 |.DictComp _ _ _ _ _=>true
 |_=>false
def one{α:Type}:List α->Option α
 |[a]=>some a
 |_=>none
def two{α:Type}:List α->Option (α×α)
 |[a,b]=>some (a,b)
 |_=>none
def Ct.DY(ct:Ct)(x:Str)(e:Expr):Option Expr:=(Tt e).bind λq=>(GZ q.1).bind λy=>if y=x/\ct.own y=true/\q.2.2.1.isEmpty=true then one q.2.1 else none
def Ct.call2(ct:Ct)(x:Str)(e:Expr):Option (Expr×Expr):=(Tt e).bind λq=>(GZ q.1).bind λy=>if y=x/\ct.own y=true/\q.2.2.1.isEmpty=true then two q.2.1 else none
noncomputable def special(ct:Ct)(x:Str)(e:Expr):Option (C->Option C):=
 if ct.own x && decide (x="list") && (ct.DY "reversed" e).isSome then some Py else if ct.own x && decide (x="list") && (ct.DY "range" e).isSome then some Ep
 else if ct.own x && decide (x="len") && (ct.DY "set" e).isSome then some L9 else none
def tyName(x:Str):Option Ty:=
 if x="int" then some .int else if x="bool" then some .bool else if x="str" then some .str else if x="tuple" then some .tuple else if x="list" then some .list else none
def aA(x:Str):Option (C->Option C):=
 if x="len" then some AD else if x="list" then some CP else if x="tuple" then some Jo else if x="all" then some Ff else if x="any" then some anyC
 else if x="abs" then some (He TQ)else none
def JX(ct:Ct):List Expr->Option (List Nat)
 |[]=>some []
 |e::es=>((GZ e).bind ct.Cy).bind λi=>(JX ct es).map λis=>i::is
def XH(ct:Ct):Expr->Option Tg
 |.Name x _=>(ct.Cy x).map .nm
 |.Tuple es _ _=>(JX ct es).map .tup
 |_=>none
noncomputable def Ct.block(ct:Ct)(sc:Scope):Ct×List (Option Nat):=
 let own:=(sc.names.filter λq=>q.2 == .local).map (·.1)
 let free:=(sc.names.filter λq=>q.2 == .free).map (·.1)
 ({ct with N:=own++free,sc:=sc,df:=false,Lc:=[]},own.map (λ_=>none)++free.map λx=>ct.N.idxOf? x)
noncomputable def QE(N0:List Str)(sc0:Scope)(N:List Str)(scope:Scope)(fr:List (Option Nat)):Bool:=
 (scope.kind == .function) && scope.names.all (λy=>y.2 != .cell) && scope.names.all (λy=>y.2 != .local || scope.names.lookup y.1 == some .local) &&
 scope.names.all (λy=>y.2 != .free || sc0.names.lookup y.1 == some .cell || sc0.names.lookup y.1 == some .free) && (fr.length == N.length) &&
 (List.range fr.length).all λj=>match fr[j]? with
  |some (some i)=>(N[j]? == N0[i]?) && (match N[j]? with|some x=>scope.names.lookup x == some .free|none=>false)
  |_=>true
def Jc(n:Nat)(apos pos:Pos):Bool:=(apos.endLine == pos.line) && decide (n < 29)
def Nk(a:Arguments)(sc:Scope):List Str:=a.args.map (·.arg)++(sc.names.filter λq=>q.2 == .free).map (·.1)
def Ct.lam(ct:Ct)(a:Arguments)(sc:Scope):Ct:={ct with N:=Nk a sc,sc:=sc,df:=false,Lc:=[]}
abbrev JK:Str:="part"
noncomputable def PF(sc0:Scope)(a:Arguments)(sc:Scope):Bool:=(sc.kind == .function) && !sc.isCoroutine && !sc.isGenerator && sc.names.all (λy=>y.2 != .cell) && sc.names.all (λy=>y.2 != .local || (a.args.map (·.arg)).contains y.1) &&
 sc.names.all (λy=>y.2 != .free || sc0.names.lookup y.1 == some .cell || sc0.names.lookup y.1 == some .free) && decide ((Nk a sc).Nodup) && (a.args.all λy=>sc.names.lookup y.arg == some .local) && (sc.names.all λy=>y.2 != .free || sc.names.lookup y.1 == some .free) &&
 decide (a.args.map (·.arg)=[JK]) && a.posonlyargs.isEmpty && a.vararg.isNone && a.kwonlyargs.isEmpty && a.kwarg.isNone && a.defaults.isEmpty && a.kw_defaults.isEmpty
def Tw(ct:Ct):List Str->Option (List Nat)
 |[]=>some []
 |x::xs=>(ct.slot x).bind λi=>(Tw ct xs).map (i::·)
noncomputable def WT(ct:Ct)(x:Str)(a:T)(as:Arguments)(sc:Scope)(lp:Pos)(t:Option T):Option T:=if PF ct.sc as sc && ct.df && ct.glob x then
 (ct.fns.lookup x).bind λf=>(ct.Lc.lookup lp).bind λl=>(Tw ct ((sc.names.filter λq=>q.2 == .free).map (·.1))).bind λEM=>t.bind λt=>if ct.lt l (Nk as sc).length t then some (.Ki f a l EM)else none else none
noncomputable def bP(ct:Ct)(x:Str)(ts:List T):Option T:=
 if ct.own x then(if x="max" then(two ts).map λq=>.A1 (Aw Pl) q.1 q.2 else if x="min" then(two ts).map λq=>.A1 (Aw Ph) q.1 q.2 else(one ts).bind λt=>(aA x).map λf=>.Ak f t)
 else match ct.slot x with
 |some i=>some (.app i ts)
 |none=>if ct.glob x then(match ct.fns.lookup x with|some f=>some (.call f ts)|none=>(ct.cls.lookup x).bind λf=>(one ts).map λt=>.make f [t])else none
noncomputable def bN(ct:Ct)(m:Str)(nm:Bool)(o:T)(ts:List T):Option T:=match ct.NS.lookup m with
 |some f=>if nm then some (.Bq f o ts)else none
 |none=>
 if m="get" then(one ts).map λt=>.A1 Ey o t
 else if m="index" then(one ts).map λt=>.A1 Dy o t
 else if m="upper"/\ts.isEmpty=true then some (.Ak Ga o)else none
def di(x:T)(lo hi:Option T):Option T:=match lo,hi with
 |some l,none=>some (.A1 M7 x l)
 |none,some h=>some (.A1 Ou x h)
 |some l,some h=>some (.XF Vw x l h)
 |none,none=>none
noncomputable def XI(ct:Ct)(tg e:Expr)(t:Option T)(a b:Option T):Option (Sq×T):=match ct.DY "range" e,ct.DY "enumerate" e,ct.call2 "zip" e,ct.call2 "range" e with
 |some _,_,_,_=>a.map λa=>(DQ,a)
 |none,some _,_,_=>if Cb tg then a.map λa=>(J0,a)else none
 |none,none,some _,_=>if Cb tg then a.bind λa=>b.map λb=>(Jh,.A1 Gv a b)else none
 |none,none,none,some _=>a.bind λa=>b.map λb=>(KL,.A1 Gv a b)
 |none,none,none,none=>t.map λt=>(AM,t)
def SS(ct:Ct)(e:Expr):Option (C->Option C):=(GZ e).bind λy=>if ct.own y then(tyName y).map FN else none
mutual
noncomputable def kE (ct:Ct):Expr->Option T
 | .Constant c _ _=>match c with
   |.none=>some (.cst (.p .AG))
   |.bool b=>some (.cst (.p (.bl b)))
   |.int i=>some (.cst (.p (.int i)))
   |.str x=>some (.cst (.p (.str x)))
   |_=>none
 |.Name x _=>ct.name x
 |.Tuple es _ _=>(PU ct es).map .tup
 |.List es _=>(PU ct es).map .lst
 |.Dict ks vs _=>if ks.isEmpty && vs.isEmpty then some (.Ak (λ_=>some (.Bl true [])) (.cst (.p .AG)))else none
 |.BinOp a op b _=>(bM op).bind λo=>(kE ct a).bind λx=>(kE ct b).map λy=>.A1 o x y
 | .UnaryOp op a _=>(kE ct a).bind λx=>match op with
   |.Not=>some (.not x)
   |.USub=>some (.Ak (He Nb) x)
   |_=>none
 |.BoolOp op es _=>kB ct op es
 |.IfExp c a b _=>(kE ct c).bind λc=>(kE ct a).bind λx=>(kE ct b).map λy=>.ite c x y
 |.Compare a ops es _=>(kE ct a).bind λx=>(PU ct es).bind λys=>Ts x ops ys
 |.Attribute o m _=>if(GZ o).isSome then(kE ct o).bind λx=>(ct.fld.idxOf? m).map λj=>.Ak (DB j) x else none
 |.Subscript v i _=>(kE ct v).bind λx=>if IL i then(kI ct i).bind λq=>di x q.1 q.2 else(kE ct i).map λy=>.A1 Ae x y
 |.ListComp elt gs sc _=>kG ct sc gs (kE (ct.block sc).1 elt)
 |.Call f args kws pos=>if kws.isEmpty then kC ct f args pos (PU ct args) (XJ ct args) (ak ct args) (bQ ct args)else none
 |_=>none
noncomputable def kI (ct:Ct):Expr->Option (Option T×Option T)
 |.Slice lo hi st _=>if st.isNone then(kO ct lo).bind λl=>(kO ct hi).map λh=>(l,h)else none
 |_=>none
noncomputable def kO (ct:Ct):Option Expr->Option (Option T)
 |none=>some none
 |some e=>(kE ct e).map some
noncomputable def kC (ct:Ct):Expr->List Expr->Pos->Option (List T)->Option T->Option T->Option T->Option T
 | .Name x _,args,_,ts,a1,l1,aa=>if ct.own x && decide (x="isinstance")then(two args).bind λq=>(SS ct q.2).bind λty=>a1.map λt=>.Ak ty t
   else match(two args).bind λq=>WL q.2 with
   |some l=>a1.bind λa=>WT ct x a l.1 l.2.2.1 l.2.2.2 l1
   | none=>match(one args).bind (special ct x)with
     |some f=>aa.map λt=>.Ak f t
     |none=>ts.bind (bP ct x)
 |.Attribute o m ap,args,pos,ts,_,_,_=>if Jc args.length ap pos && Uv o then(kE ct o).bind λt=>ts.bind (bN ct m (GZ o).isSome t)else none
 |_,_,_,_,_,_,_=>none
noncomputable def XJ (ct:Ct):List Expr->Option T
 |[]=>none
 |e::_=>kE ct e
noncomputable def ak (ct:Ct):List Expr->Option T
 |[]=>none
 |e::es=>bO ct e <|> ak ct es
noncomputable def bO (ct:Ct):Expr->Option T
 |.Lambda a b sc _=>kE (ct.lam a sc) b
 |_=>none
noncomputable def bQ (ct:Ct):List Expr->Option T
 |[]=>none
 |e::_=>Np ct e
noncomputable def PU (ct:Ct):List Expr->Option (List T)
 |[]=>some []
 |e::es=>(kE ct e).bind λt=>(PU ct es).map λts=>t::ts
noncomputable def kB (ct:Ct) (op:PySem.BoolOp):List Expr->Option T
 |[]=>none
 |e::es=>(kE ct e).bind λx=>if es.isEmpty then some x else(kB ct op es).map λy=>match op with| .And=>.and x y| .Or=>.or x y
noncomputable def kG (ct:Ct) (sc:Scope):List Comprehension->Option T->Option T
 |[],_=>none
 |⟨tg,it,ifs,ia⟩::gs,elt=>(XH (ct.block sc).1 tg).bind λg=>(XI ct tg it (kE ct it) (Np ct it) (JY ct it)).bind λq=>(PU (ct.block sc).1 ifs).bind λcs=>elt.bind λe=>
     if decide (ia=0) && gs.isEmpty && decide (cs.length<=1) && QE ct.N ct.sc (ct.block sc).1.N sc (ct.block sc).2 && decide ((ct.block sc).1.N.Nodup)then some (.comp g q.1 q.2 cs e (ct.block sc).2)else none
noncomputable def Np (ct:Ct):Expr->Option T
 |.Call _ args _ _=>XJ ct args
 |_=>none
noncomputable def JY (ct:Ct):Expr->Option T
 |.Call _ args _ _=>fb ct args
 |_=>none
noncomputable def fb (ct:Ct):List Expr->Option T
 |[]=>none
 |_::es=>XJ ct es
end
def Mo(ct:Ct)(e:Expr):Option (Nat×Str×List Expr):=(Tt e).bind λq=>(QH q.1).bind λa=>(GZ a.1).bind λx=>if q.2.2.1.isEmpty && Jc q.2.1.length a.2.2 q.2.2.2 then(ct.slot x).map λi=>(i,a.2.1,q.2.1)else none
def Zl(m:Str):Option (C->List C->Option C):=
 if m="append" then some (EL LK)else if m="extend" then some (EL IY)else none
noncomputable def PQ(ct:Ct)(e:Expr):Option S:=(Mo ct e).bind λq=>if q.2.1="pop"/\q.2.2.isEmpty=true then some (.pop none q.1)else if q.2.1="insert" then(two q.2.2).bind λa=>(kE ct a.1).bind λt=>(kE ct a.2).map λu=>.Ce q.1 true (Dt T3) [t,u]else(Zl q.2.1).bind λf=>(one q.2.2).bind λa=>(kE ct a).map λt=>.Ce q.1 true f [t]
def PM(ct:Ct)(e:Expr):Option Nat:=(Mo ct e).bind λq=>if q.2.1="pop"/\q.2.2.isEmpty=true then some q.1 else none
noncomputable def eZ(ct:Ct)(e:Expr):Expr->Option S
 | .Name x _=>(ct.Cy x).bind λi=>match PM ct e with
   |some j=>some (.pop (some i) j)
   |none=>(kE ct e).map λt=>.asg (.nm i) t
 |.Tuple es _ _=>if Cb e then none else(kE ct e).bind λt=>(JX ct es).map λis=>.asg (.tup is) t
 | .Subscript v i _=>(kE ct e).bind λt=>if IL i then none else(kE ct i).bind λk=>match QH v with
   |some q=>((GZ q.1).bind ct.slot).bind λj=>(ct.fld.idxOf? q.2.1).map λf=>.Ce j false (Dt (Bz f)) [t,k]
   |none=>((GZ v).bind ct.slot).map λj=>.Ce j false (Dt λc x k=>Dq c k x) [t,k]
 |.Attribute o f _=>((GZ o).bind ct.slot).bind λj=>(ct.fld.idxOf? f).bind λn=>(kE ct e).map λt=>.Ce j false (EL (FI n)) [t]
 |_=>none
def Zv(ct:Ct)(e:Expr):Option S:=(Mo ct e).bind λq=>(ct.NR.lookup q.2.1).bind λf=>(PU ct q.2.2).map λts=>.HS q.1 f ts
def kEx(ct:Ct)(e:Expr):Option S:=if BF e then none else match PQ ct e with
 |some s=>some s
 | none=>match Zv ct e with
   |some s=>some s
   |none=>(kE ct e).map .expr
def eX(ct:Ct)(e:Expr):Option S:=match(GZ e).bind ct.slot with
 |some i=>some (.CG i)
 |none=>(kE ct e).map .ret
def Ct.src(ct:Ct)(e:Expr):Expr:=match ct.DY "range" e,ct.DY "enumerate" e with
 |some a,_=>a
 |none,some a=>a
 |none,none=>e
def Zh(ct:Ct)(e:Expr)(t:T):Bool:=(Fq t).isNone || (GZ (ct.src e)).isSome
mutual
noncomputable def kS (ct:Ct):Stmt->Option S
 |.Assign tgs e _=>(one tgs).bind (eZ ct e)
 |.Expr e _=>kEx ct e
 | .Return o _=>match o with
   |none=>some (.ret (.cst (.p .AG)))
   |some e=>eX ct e
 |.If c a b _=>(kE ct c).bind λt=>(SO ct a).bind λx=>(SO ct b).map λy=>.ifs t x y
 |.While c b o _=>if o.isEmpty then(kE ct c).bind λt=>(SO ct b).map λx=>.R8 t x else none
 |.For tg it b o _=>if o.isEmpty then(XH ct tg).bind λg=>(XI ct tg it (kE ct it) (Np ct it) (JY ct it)).bind λq=>(SO ct b).bind λx=>if Zh ct it q.2 then some (.Dj g q.1 q.2 x)else none else none
 |_=>none
noncomputable def SO (ct:Ct):List Stmt->Option (List S)
 |[]=>some []
 |s::ss=>(SO ct ss).map λts=>(kS ct s).getD .no::ts
end
end Nv
namespace Nv
open PySem L2 PyProof.Rows
def A7:Expr->Bool
 |.Starred _ _=>false
 |.Set _ _ _=>false
 |.Slice _ _ _ _=>false
 |_=>true
theorem A2(h:A7 e=true)(es:List Expr)(env:PySem.Env):starEach (e::es) env=(false,eval e env)::starEach es env:=by
 cases e<;>first|rfl|cases h
theorem Fc(h:A7 e=true)(op:CmpOp):behindInMarks op e=false:=by
 cases e<;>first|rfl|cases h
theorem Jv(h:BF e=false)(tg:Option Expr)(l:Nat)(env:PySem.Env):swapsWith e tg l env=pure false:=by
 cases e<;>first|rfl|cases h
theorem DJ(h:A7 e=true)(env:PySem.Env)(x:Value):foldedSetIterable e env x=pure x:=by
 cases e<;>first|rfl|cases h
variable{X:Cx}{W:Wd}{Y:L2.St}{H:Hp}
def OD(W:Wd):V->Hp->(Bool->Hp->Prop)->Prop:=λx H Q=>∃c b,Dk W H c x/\FH c=some b/\Q b H
theorem U6{F:Env->Res C}{Q:Bool->Hp->Prop}(h:tG W rB (λU=>(F U).bind λc=>Res.of (FH c)) Y H Q):tG W (rV W) F Y H λx H1=>OD W x H1 Q:=by
 rintro⟨U,B,R,d⟩:h;refine#[U,B,R,d.step Ej λc v H1 _ e1 t1 a h1=>?_];rintro⟨b,e,h1⟩:h1.of;exact#[c,b,a.rd,e,h1 b H1 (Ext.refl _) t1 rfl]
variable{vs:List V}
theorem F8{ps:List P}(h:Cw W H ps vs):(!ps.isEmpty)= !vs.isEmpty:=by cases h<;>rfl
theorem V8(hK:W.K=X.K):ZU X (OD W):=by
 intro p0 s Y H x v Q I d h;rintro⟨c,b,h1,e,q⟩:h;have ok:=λ(z:ZT X.K x H b)=>V9 p0 s Y H x v Q I d #[b,z,q]
 cases c with
 |Bl o kvs=>cases e
 |obj _ _=>cases e
 |lst o ps=>
   cases e;rintro⟨a,vs,rfl,k1,k2⟩:Bn rfl h1;exact ok (.inl #[vs,.inl k1,F8 k2])
 |p y =>
   cases y with
   |AG=>cases e;cases Gn h1;exact ok rfl
   |bl i=>cases e;cases Ei h1;exact ok rfl
   |int i=>cases e;cases AZ h1;exact ok rfl
   |str i=>
     cases BI h1;rintro⟨hl,rfl⟩:A3 e;refine ok #[Nat.le_trans hl Bw,?_];cases i.length<;>simp<;>lia
   |tup ps=>
     cases e;rintro⟨a,vs,rfl,k1,k2⟩:CH h1;exact ok (.inr (.inl #[vs,hK▸k1,F8 k2]))
   |fn _ _=>cases e
   |box t ps=>
     cases t with
     |succ _=>cases e
     |zero=>
       cases e;rintro⟨a,vs,rfl,k1,k2⟩:Bn rfl h1;exact ok (.inl #[vs,.inl k1,F8 k2])
theorem Ur(hK:W.K=X.K){a:Expr}{ta:TE}(d:PE X a ta)(he:∀whole,isTrue a X.env whole=(do let v <-whole;standAt a.pos;holding [v] (truthy v))):PT X a (λY H Q=>ta Y H λx H1=>OD W x H1 Q):=by
 intro p0 s Y H Q I h;exact isTrue_plain (AS (d p0 s Y H _ I h) λv s1 ⟨x,H1,e,b,c⟩=>V8 hK p0 s1 Y H1 x v Q e b c) (he _)
structure AR(X:Cx)(W:Wd)(cf:CF)(e:Expr)(t:T):Prop where
 v:PE X e (tG W (rV W) (ev cf t))
 b:PT X e (tG W rB (tv cf t))
 st:A7 e=true
 a:∀(i:Nat) (y:Str) (py spos:Pos),X.N.Nodup->X.N[i]? =some y->Loc X.env.scope y->(X.fn y=true\/X.env.scope.names.lookup y=some .local)->PS X (.Assign [.Name y py] e spos) (Ju (tG W (rV W) (ev cf t)) (Ez i))
abbrev E7(X:Cx)(W:Wd)(cf:CF):List Expr->List T->Prop:=Paired (AR X W cf)
variable{cf:CF}
theorem ZR{t:TE}(nc:BF e=false)(h:PE X e t)(i:Nat)(y:Str)(py a:Pos)(c:X.N.Nodup)(hi:X.N[i]? =some y)(b:Loc X.env.scope y)(hf:X.fn y=true\/X.env.scope.names.lookup y=some .local):PS X (.Assign [.Name y py] e a) (Ju t (Ez i)):=
 KN c hi b h (Jv nc _ _ _) hf
theorem AR.of(hK:W.K=X.K){e:Expr}(v:PE X e (tG W (rV W) (ev cf t)))(a:tv cf t=λU=>(ev cf t U).bind λc=>Res.of (FH c))(he:∀whole,isTrue e X.env whole=(do let v <-whole;standAt e.pos;holding [v] (truthy v)):=by intro _;rfl)
 (st:A7 e=true:=by rfl)(nc:BF e=false:=by rfl):AR X W cf e t:=
 #[v,Gr (Ur hK v he) λY H Q z=>U6 (by rw[a]at z;exact z),st,ZR nc v]
theorem AR.Z8(v:PE X e (tG W (rV W) (ev cf t)))(b:PT X e (tG W rB (tv cf t)))(st:A7 e=true:=by rfl)(nc:BF e=false:=by rfl):AR X W cf e t:=#[v,b,st,ZR nc v]
theorem DF(hK:W.K=X.K){e:Expr}{c:C}(h:PE X e (tC v))(a:∀H own bor,AF W H own bor c.bor v)(he:∀whole,isTrue e X.env whole=(do let v <-whole;standAt e.pos;holding [v] (truthy v)))(st:A7 e=true)(nc:BF e=false):AR X W cf e (.cst c):=
 AR.of hK (Ai h λY H Q ⟨U,B,R,b⟩=>b v H (Ext.refl H) R.tb (a _ _ _)) rfl he st nc
variable{pos:Pos}
theorem Rv(hK:W.K=X.K){i:Nat}{x:Str}(e:X.N[i]? =some x)(d:aB X.env.scope x)(hd:ng x)(a:(x == ("__classdict__":Str))=false):AR X W cf (.Name x pos) (.var i):=
 AR.of hK (Ai (OS e d hd a) λY H Q ⟨U,B,R,b⟩=>by
  rintro⟨c,f,b⟩:b.of;rintro⟨c0,e0,rfl⟩:AU f;rintro⟨v,e1,r⟩:R.get i c0 e0
  exact#[v,e1,b v H (Ext.refl H) R.tb (r.borrow λ_ z=>z)]) rfl
theorem W3:∀{es:List Expr} {ts:List T},E7 X W cf es ts->PA X es (tG W (Up W) (FR cf ts))
 |_,_,.nil=>IA Bv λY H Q z=>Vc z
 |_,_,.cons h r=>IA (AB (OV h.v) (W3 r) (A2 h.st _ _)) λY H Q z=>Rm z
theorem OZ:∀{es:List Expr} {ts:List T},E7 X W cf es ts->PA X es (tG W (NP W) (BK cf ts))
 |_,_,.nil=>IA Bv λY H Q z=>M0 z
 |_,_,.cons h r=>IA (AB h.v (OZ r) (A2 h.st _ _)) λY H Q z=>Gg z
variable{H:Hp}
theorem O7{Y:L2.St}{Q:VK}{F:Env->Res (List P)}{f:List P->C}{g:List V->HO}(h:tG W (rV W) (λU=>(F U).bind λps=>if ps.length<=1000 then .ok (f ps)else .stuck) Y H Q)
 (hf:∀B c H1 ps vs p,Ext c H1->H1 p=none->Cw W H1 ps vs->rV W B c (upd H1 p (g vs)) (f ps) (.ref p)):
 tG W (Up W) F Y H λxs H1=>xs.length<=sizeLine/\∀p,H1 p=none->Q (.ref p) (upd H1 p (g xs)):=by
 rintro⟨U,B,R,d⟩:h;refine#[U,B,R,d.step Au λps vs H1 _ e1 t1 b h1=>?_];split at h1
 .rename_i hl;have:=Paired.length b;have e:(1000:Nat)<=sizeLine:=by decide
  exact#[by lia,λp a=>h1 _ _ (.of (Ar a)) (t1.same (Ar a)) (hf B H1 H1 ps vs p (Ext.refl _) a b)]
 .exact h1.elim
variable{ts:List T}
theorem Rw(hK:W.K=X.K){es:List Expr}{a:_}(h:E7 X W cf es ts):AR X W cf (.Tuple es a pos) (.tup ts):=
 AR.of hK (Ai (VU (W3 h)) λY H Q z=>O7 (g:=.tup) z λB c H1 ps vs p _ b r=>A9.mpr #[p,vs,rfl,D2.of A6,r.mono (AH.of (Ar b))]) rfl
theorem Ry(hK:W.K=X.K){es:List Expr}(h:E7 X W cf es ts):AR X W cf (.List es pos) (.lst ts):=
 AR.of hK (Ai (VY (W3 h)) λY H Q z=>O7 (g:=.lst) z λB b H1 ps vs p e a r=>#[p,vs,rfl,#[A6,e.none a],r.mono (AH.of (Ar a))]) rfl
theorem RD(hK:W.K=X.K){op:Operator}{g:C->C->Option C}(c:BG X (binaryOp op) (AV W g))(h1:AR X W cf a x)(h2:AR X W cf b y):AR X W cf (.BinOp a op b pos) (.A1 g x y):=
 AR.of hK (Ai (YZ c h1.v h2.v) λY H Q z=>Jq z) rfl
theorem Vs(hK:W.K=X.K){op:UnaryOp}{g:C->Option C}(b:Hl X (unaryOp op) (BZ W g))(he:∀whole,isTrue (.UnaryOp op a pos) X.env whole=(do let v <-whole;standAt (Expr.UnaryOp op a pos).pos;holding [v] (truthy v)))(h1:AR X W cf a x):AR X W cf (.UnaryOp op a pos) (.Ak g x):=
 AR.of hK (Ai (YX b h1.v) λY H Q z=>U8 z) rfl he
theorem O5{F:Env->Res C}{Y:L2.St}{Q:Bool->Hp->Prop}(d:∀U c,F U= .ok c->∃b,c=bC b)(h:tG W rB (λU=>(F U).bind λc=>Res.of (FH c)) Y H Q):tG W (rV W) F Y H λx H1=>∃k,x= .bl k/\Q k H1:=by
 rintro⟨U,B,R,e⟩:h;refine#[U,B,R,e.step Ej λc v H1 e0 e1 t1 a h1=>?_];rintro⟨b,rfl⟩:d U c e0;exact#[b,Ei a,h1 b H1 (Ext.refl _) t1 rfl]
variable{α:Type}
theorem CA{β:Type}{r:Res α}{f:α->Res β}{b:β}(h:r.bind f= .ok b):∃a,r= .ok a/\f a= .ok b:=by
 cases r with
 |stuck=>cases h
 |ok a=>exact#[a,rfl,h]
theorem P5{o:Option α}{b:α}(h:Res.of o= .ok b):o=some b:=by
 cases o with
 |none=>cases h
 |some a=>cases h;rfl
theorem RB{op:CmpOp}{g:C->C->Option C}(d:BG X (compareOp op) (AV W g))(f:∀a b c,g a b=some c->∃k,c=bC k){a b:Expr}(h1:AR X W cf a x)(h2:AR X W cf b y):AR X W cf (.Compare a [op] [b] pos) (.A1 g x y):=
 AR.Z8 (Ai (S6 d h1.v h2.v (Fc h2.st op)) λY H Q z=>Jq z) (Gr (RT d h1.v h2.v (Fc h2.st op)) λY H Q z=>Jq (O5 (λU c e=>by
  rintro⟨u,_,e⟩:CA e;rintro⟨w,_,e⟩:CA e
  exact f _ _ _ (P5 e)) z))
theorem RC{o1 o2:CmpOp}{f g:C->C->Option C}(h1:BG X (compareOp o1) (AV W f))(h2:BG X (compareOp o2) (AV W g))(j:∀a b c,g a b=some c->∃k,c=bC k){a b c:Expr}(i:AR X W cf a x)(d:AR X W cf b y)(h:AR X W cf c z)
 (hm:lastMarks [o1,o2] [b,c]=false):AR X W cf (.Compare a [o1,o2] [b,c] pos) (.Tu f g x y z):=
 AR.Z8 (Ai (OY h1 h2 i.v d.v h.v hm) λY H Q z=>U9 z) (Gr (OG h1 h2 i.v d.v h.v hm) λY H Q z=>U9 (O5 (λU c e=>by
  rintro⟨u,_,e⟩:CA e;rintro⟨w,_,e⟩:CA e;rintro⟨k,_,e⟩:CA e;cases k with
  |true=>
    rintro⟨w,_,e⟩:CA e;exact j _ _ _ (P5 e)
  |false=>cases e;exact#[false,rfl]) z))
theorem snd_and{b:Expr}{rest:List Expr}(h1:AR X W cf a x)(c:PE X (.BoolOp .And (b::rest) pos) (tG W (rV W) (ev cf y)))(d:PW X (.BoolOp .And (b::rest) pos) (tG W rB (tv cf y))):
 PE X (.BoolOp .And (a::b::rest) pos) (tG W (rV W) (ev cf (.and x y)))/\PW X (.BoolOp .And (a::b::rest) pos) (tG W rB (tv cf (.and x y))):=
 #[Ai (W2 h1.v c) λY H Q z=>Vg z,λwhole p0 s Y H Q I z=>VP h1.b d whole p0 s Y H Q I (Yz z)]
theorem Vt{b:Expr}{rest:List Expr}(h1:AR X W cf a x)(c:PE X (.BoolOp .Or (b::rest) pos) (tG W (rV W) (ev cf y)))(d:PW X (.BoolOp .Or (b::rest) pos) (tG W rB (tv cf y))):
 PE X (.BoolOp .Or (a::b::rest) pos) (tG W (rV W) (ev cf (.or x y)))/\PW X (.BoolOp .Or (a::b::rest) pos) (tG W rB (tv cf (.or x y))):=
 #[Ai (YY h1.v c) λY H Q z=>Yu z,λwhole p0 s Y H Q I z=>YV h1.b d whole p0 s Y H Q I (aK z)]
theorem Rx(h1:AR X W cf a x):AR X W cf (.UnaryOp .Not a pos) (.not x):=
 AR.Z8 (Ai (VW h1.v) λY H Q z=>Vb z) (Gr (VQ h1.b) λY H Q z=>Yv z)
theorem Rz(hK:W.K=X.K)(h0:AR X W cf c z)(h1:AR X W cf a x)(h2:AR X W cf b y):AR X W cf (.IfExp c a b pos) (.ite z x y):=
 AR.Z8 (Ai (OU h0.b h1.v h2.v) λY H Q z=>Yx z) λ_ _ _ _ _ _ ⟨_,_,_,z⟩=>z.elim
def AL(as:List Nat)(Y Y':L2.St):Prop:=Y'.length=Y.length/\∀i,i∉as->Y'[i]? =Y[i]?
theorem AL.refl(as:List Nat)(Y:L2.St):AL as Y Y:=#[rfl,λ_ _=>rfl]
theorem AL.trans{as:List Nat}{Y c Y2:L2.St}(a:AL as Y c)(b:AL as c Y2):AL as Y Y2:=#[b.1.trans a.1,λi h=>(b.2 i h).trans (a.2 i h)]
theorem AL.mono{as bs:List Nat}{Y Y':L2.St}(a:AL as Y Y')(h:∀i∈as,i∈bs):AL bs Y Y':=#[a.1,λi hi=>a.2 i λz=>hi (h i z)]
theorem AL.set{as:List Nat}{Y:L2.St}{i:Nat}{x:Option V}(h:i∈as):AL as Y (Y.set i x):=⟨length_set ..,λj a=>by
 rw[List.getElem?_set_ne]
 exact λz=>a (z▸h)⟩
structure Aq(W:Wd)(Hin:Hp)(A0:Addr->Prop)(Bo:Nat->Addr->Prop)(H:Hp)(U:Env)(Y:L2.St):Prop where
 len:Y.length=U.length
 tb:Bx W H
 env:∃O:Addr->Nat,∀i c,A8 U i=some c->∃v,Y[i]? =some (some v)/\AF W H (λa=>O a=i/\(Hin a=none\/A0 a)) (Bo i) c v
 bo:∀i a,Bo i a->(∃x,Hin a=some x)/\¬A0 a
 F5:∀b x,Hin b=some x->¬A0 b->CB x=false->H b=some x
 FQ:∀b x,Hin b=some x->∃y,H b=some y
 kp:AH Hin H
section
variable{Hin:Hp}{A0:Addr->Prop}{Bo:Nat->Addr->Prop}{H1:Hp}{U:Env}
theorem Aq.ext(S:Aq W Hin A0 Bo H U Y)(e:Ext H H1)(t:Bx W H1):Aq W Hin A0 Bo H1 U Y:=
 #[S.len,t,let⟨O,h⟩:=S.env;#[O,λi c q=>let⟨v,f,d⟩:=h i c q;#[v,f,d.ext e (λ_ z=>z) λ_ z=>z]],S.bo,λb x q n a=>e.but b x (S.F5 b x q n a) a,λb x q=>let⟨y,z⟩:=S.FQ b x q;e.there b y z,S.kp.trans e.keep]
theorem Aq.rev(S:Aq W Hin A0 Bo H U Y):Kr W (λa=>∃x,H a=some x) H U Y:=
 ⟨S.len,S.tb,λ_ z=>z,λi c q=>by
  rintro⟨O,h⟩:S.env;rintro⟨v,d,b⟩:h i c q
  exact#[v,d,b.mono (λa=>#[λ_ z=>z,λ_ _ z=>z]) (λa x _ e _=>#[e,x,e]) λa x _ e _=>#[e,x,e]]⟩
theorem Aq.new(S:Aq W Hin A0 Bo H U Y)(h:H a=none):Hin a=none:=by
 cases e:Hin a with
 |none=>rfl
 |some x=>rintro⟨y,z⟩:S.FQ a x e;rw[h]at z;cases z
theorem Cq{i j:Nat} :A8 (U.set i x) j=if i=j then(if i < U.length then x else none)else A8 U j:=by
 unfold A8;rw[List.getElem?_set];split
 .subst_vars
  split<;>simp_all
 .rfl
theorem IQ{i:Nat}{c:C}(h:A8 U i=some c):i < U.length:=by
 unfold A8 at h;cases e:U[i]? with
 |none=>rw[e]at h;cases h
 |some x=>exact(List.getElem?_eq_some_iff.mp e).1
theorem D6{c:C}{own own' bor bor':Addr->Prop}(f:c.own=true)(r:AF W H own bor c v)(h:∀a x,own a->H a=some x->own' a):AF W H own' bor' c v:=by
 cases c with
 |p x=>exact r
 |lst o ps=>cases (show o=true from f);rintro⟨a,vs,e1,e2,e⟩:r;exact#[a,vs,e1,#[e2.1,h a _ e2.2 e2.1],e]
 |Bl o ps=>cases (show o=true from f);rintro⟨a,vs,e1,e2,e⟩:r;exact#[a,vs,e1,#[e2.1,h a _ e2.2 e2.1],e]
 |obj o fs=>
   cases (show o=true from f);rintro⟨a,dx,vs,e1,e2,e,g⟩:r;refine#[a,dx,vs,e1,e2,h a _ e e2,Paired.EY g.1 λd v z=>?_,g.2];cases d with
   |p x=>exact z
   |d kvs=>rintro⟨b,es,k1,k2,i⟩:z;exact#[b,es,k1,#[k2.1,h b _ k2.2 k2.1],i]
theorem Aq.set{i:Nat}{c:C}{B:Addr->Prop}(S:Aq W Hin A0 Bo H U Y)(e:Ext H H1)(t:Bx W H1)(hi:i < Y.length)(m:c.own=true)(r:rV W B H H1 c v):Aq W Hin A0 Bo H1 (U.set i (some c)) (Y.set i (some v)):=by
 rintro⟨O,h⟩:S.env;have f:=S.ext e t;refine#[by rw[length_set,length_set];exact S.len,t,#[λa=>if(H a).isNone then i else O a,λj d q=>?_],S.bo,f.F5,f.FQ,f.kp];rw[Cq]at q;split at q
 .rename_i b;subst b;split at q
  .cases q;refine#[v,List.getElem?_set_self hi,?_];exact D6 m r λa x z _=>#[by show(if(H a).isNone then i else O a)=i;rw[z];rfl,.inl (S.new z)]
  .cases q
 .rename_i b;rintro⟨u,l,g⟩:h j d q;refine#[u,by rw[List.getElem?_set_ne b];exact l,g.mono e.keep (λa x p k n=>#[e.but a x k n,?_,p.2]) λa x p k n=>#[e.but a x k n,p]];show(if(H a).isNone then i else O a)=j;rw[k];exact p.1
section
variable (W:Wd)(Hin:Hp)(A0:Addr->Prop)
def DC(c:C)(v:V)(H':Hp):Prop:=AF W H' (λa=>Hin a=none\/A0 a) (λ_=>False) c v/\Bx W H'/\(∀b x,Hin b=some x->¬A0 b->CB x=false->H' b=some x)/\(∀b x,Hin b=some x->∃y,H' b=some y)/\AH Hin H'
variable (Bo:Nat->Addr->Prop)
def Bh(as:List Nat)(D:Ends)(Y:L2.St)(r:Fl):Prop:=match r with
 |.stuck=>False
 |.nx U'=>∀Y' H',Aq W Hin A0 Bo H' U' Y'->AL as Y Y'->D.nx Y' H'
 |.ret c=>∀v H',DC W Hin A0 c v H'->D.rt v H'
end
def tS(W:Wd)(as:List Nat)(F:Env->Fl):TS:=λD Y H=>∃Hin A0 Bo U,Aq W Hin A0 Bo H U Y/\Bh W Hin A0 Bo as D Y (F U)
variable{as bs:List Nat}{D:Ends}{r:Fl}{F G:Env->Fl}
theorem Bh.later{a:L2.St}(h:Bh W Hin A0 Bo as D Y r)(u:AL as Y a):Bh W Hin A0 Bo as D a r:=by
 cases r with
 |stuck=>exact h
 |ret c=>exact h
 |_=>exact λY' H' s w=>h Y' H' s (u.trans w)
theorem Bh.more(h:Bh W Hin A0 Bo bs D Y r)(hm:∀i∈as,i∈bs):Bh W Hin A0 Bo as D Y r:=by
 cases r with
 |stuck=>exact h
 |ret c=>exact h
 |_=>exact λY' H' s w=>h Y' H' s (w.mono hm)
theorem Bh.step{α β:Type}{rep:Rp α β}{B:Addr->Prop}{q:Res α}{G:α->Fl}{K:β->Hp->Prop}(S:Aq W Hin A0 Bo H U Y)(h:Bh W Hin A0 Bo as D Y (q.fl G))
 (k:∀a b H1,Ext H H1->Bx W H1->rep B H H1 a b->Bh W Hin A0 Bo as D Y (G a)->K b H1):D3 W rep B H q K:=by
 cases q with
 |stuck=>exact h
 |ok a=>exact λb H1 e t r=>k a b H1 e t r h
theorem YJ(h:tS W [] (λU=>.nx U) D Y H):Ud D Y H:=let⟨_,_,_,_,S,a⟩:=h;a Y H S (AL.refl _ _)
theorem VG(h:tS W (as++bs) (λU=>(F U).then G) D Y H):YA (tS W as F) (tS W bs G) D Y H:=by
 rintro⟨Hin,A0,Bo,U,S,a⟩:h;have f:∀i∈as,i∈as++bs:=λi hi=>mL hi
 have e:∀i∈bs,i∈as++bs:=λi hi=>mR hi
 refine#[Hin,A0,Bo,U,S,?_];replace a:Bh W Hin A0 Bo (as++bs) D Y ((F U).then G):=a;cases b:F U with
 |nx d=>rw[b]at a;exact λY' H' s w=>#[Hin,A0,Bo,d,s,(Bh.later (r:=G d) a (w.mono f)).more e]
 |stuck=>rw[b]at a;exact a
 |ret c=>rw[b]at a;exact a
theorem aR{B:Env->Res Bool}(h:tS W (as++bs) (λU=>(B U).fl λx=>if x then F U else G U) D Y H):YE (tG W rB B) (tS W as F) (tS W bs G) D Y H:=by
 rintro⟨Hin,A0,Bo,U,S,c⟩:h;refine#[U,_,S.rev,c.step S λa b H1 e t r h1=>?_];cases r;cases a with
 |true=>exact#[Hin,A0,Bo,U,S.ext e t,h1.more λi hi=>mL hi]
 |false=>exact#[Hin,A0,Bo,U,S.ext e t,h1.more λi hi=>mR hi]
theorem VF{F:Env->Res C}(h:tS W [] (λU=>(F U).fl λ_=>.nx U) D Y H):Js (tG W (rV W) F) D Y H:=by
 rintro⟨Hin,A0,Bo,U,S,c⟩:h;exact#[U,_,S.rev,c.step S λa b H1 e t r h1=>h1 Y H1 (S.ext e t) (AL.refl _ _)]
theorem Uj{F:Env->Res C}(h:tS W [] (λU=>(F U).fl λc=>if c.own then .ret c else .stuck) D Y H):Vh (tG W (rV W) F) D Y H:=by
 rintro⟨Hin,A0,Bo,U,S,f⟩:h;refine#[U,_,S.rev,f.step S λc v H1 e t r h1=>?_];split at h1
 .rename_i d;have b:=S.ext e t;exact h1 v H1 #[D6 d r λa x z _=>.inl (S.new z),t,b.F5,b.FQ,b.kp]
 .exact h1.elim
theorem Vz{i:Nat}(h:tS W [] (λU=>match A8 U i with|some c=>if c.own then .ret c else .stuck|none=>.stuck) D Y H):Vh (ES i) D Y H:=by
 rintro⟨Hin,A0,Bo,U,S,b⟩:h;rintro⟨O,j⟩:S.env;cases e:A8 U i with
 |none=>simp only[e]at b;exact b.elim
 |some c=>
   simp only[e]at b;rintro⟨v,f,d⟩:j i c e;split at b
   .rename_i g;exact#[v,f,b v H #[D6 g d λa x z _=>z.2,S.tb,S.F5,S.FQ,S.kp]]
   .exact b.elim
theorem YI{i:Nat}{F:Env->Res C}(hi:i < Y.length)(h:tS W [i] (λU=>(F U).fl λc=>match Gj (.nm i) c U with|some U'=>.nx U'|none=>.stuck) D Y H):Ju (tG W (rV W) F) (Ez i) D Y H:=by
 rintro⟨Hin,A0,Bo,U,S,d⟩:h;refine#[U,_,S.rev,d.step S λc v H1 e t r h1=>?_];unfold Gj at h1;dsimp only at h1;split at h1
 .rename_i a;cases b:c.own with
  |false=>rw[b]at a;cases a
  |true=>
    rw[b]at a;cases a;exact h1 _ H1 (S.set e t hi b r) (AL.set mS)
 .exact h1.elim
theorem V1{c:Env->Res Bool}{b:Env->Fl}(h:As c b U≠.stuck):∃n,Ay c b n U=As c b U:=by
 unfold As at h ⊢;split
 .exact#[_,rfl]
 .rename_i a;rw[dif_neg a]at h;exact absurd rfl h
theorem RJ{B:Env->Res Bool}(h:tS W as (λU=>As B F U) D Y H):O9 (tG W rB B) (tS W as F) D Y H:=by
 rintro⟨Hin,A0,Bo,U,S,a⟩:h;rintro⟨n,i⟩:V1 (c:=B) (b:=F) (U:=U) λz=>by simp only[z]at a;exact a
 replace a:Bh W Hin A0 Bo as D Y (As B F U):=a;rw[<-i]at a;refine#[λm Y' H'=>∃U',Aq W Hin A0 Bo H' U' Y'/\Bh W Hin A0 Bo as D Y' (Ay B F m U'),#[n,U,S,a],?_]
 rintro m Y' H' ⟨U',f,d⟩
 cases m with
 |zero=>exact d.elim
 |succ m=>
   refine#[U',_,f.rev,Bh.step (q:=B U') (G:=λx=>if x then(F U').turn (Ay B F m)else .nx U') f d λx b H1 e t r h1=>?_];cases r;cases x with
   |false=>exact h1 Y' H1 (f.ext e t) (AL.refl _ _)
   |true=>
     refine#[λY2 H2=>∃U',Aq W Hin A0 Bo H2 U' Y2/\Bh W Hin A0 Bo as D Y2 (Ay B F m U'),λY2 H2 z=>#[m,Nat.lt_succ_self m,z],Hin,A0,Bo,U',f.ext e t,?_];have h1:Bh W Hin A0 Bo as D Y' ((F U').turn (Ay B F m)):=h1;cases g:F U' with
     |nx U2=>rw[g]at h1;exact λY2 H2 s w=>#[U2,s,Bh.later (r:=Ay B F m U2) h1 w]
     |stuck=>rw[g]at h1;exact h1
     |ret c=>rw[g]at h1;exact h1
end
def XY(o:HO):Prop:=(∀xs,o≠.tup xs)/\(∀ob w,o≠.CK ob w)/\CB o=false
theorem EX{xs:List V}:XY (.lst xs):=#[(λ_ z=>nomatch z),(λ_ _ z=>nomatch z),rfl]
theorem HB{es:List DictEntry}:XY (DX a es):=#[(λ_ z=>nomatch z),(λ_ _ z=>nomatch z),rfl]
def a8(W:Wd)(H:Hp)(own bor:Addr->Prop)(c':C)(x:V)(Q:VK):Prop:=∀a o o' u,own a->H a=some o->XY o->AF W (upd H a o') own bor c' x->Q u (upd H a o')
variable{Hin:Hp}{A0:Addr->Prop}{Bo:Nat->Addr->Prop}{U:Env}{D:Ends}
theorem Aq.chg{i:Nat}{c:C}{O:Addr->Nat}(S:Aq W Hin A0 Bo H U Y)(B:∀i c,A8 U i=some c->∃v,Y[i]? =some (some v)/\AF W H (λa=>O a=i/\(Hin a=none\/A0 a)) (Bo i) c v)
 (A:A8 U i=some c)(w:Y[i]? =some (some x)){o:HO}(f:O a=i/\(Hin a=none\/A0 a))(l:H a=some o)(mu:XY o)(r:AF W (upd H a o') (λa=>O a=i/\(Hin a=none\/A0 a)) (Bo i) c' x):Aq W Hin A0 Bo (upd H a o') (U.set i (some c')) Y:=by
 have kp:AH H (upd H a o'):=BR l mu.1 mu.2.1
 have Sv:∀b,((∃x,Hin b=some x)/\¬A0 b)->b≠a:=λb h z=>by
  subst z;rcases f.2 with k|k
  .rw[k]at h;rintro⟨⟨_,z⟩,_⟩:h;cases z
  .exact h.2 k
 refine#[by rw[length_set];exact S.len,Ij S.tb l mu.1 mu.2.1 mu.2.2,#[O,λj d q=>?_],S.bo,λb y q n t=>?_,λb y q=>?_,S.kp.trans kp]
 .rw[Cq]at q;split at q
  .rename_i e;subst e;rw[iP (IQ A)]at q;cases q;exact#[x,w,r]
  .rename_i e;rintro⟨u,s,m⟩:B j d q;refine#[u,s,m.mono kp (λb y p k n=>#[by rw[A4 λz=>e (by rw[<-f.1,<-p.1,z])];exact k,p]) λb y p k n=>#[by rw[A4 (Sv b (S.bo j b p))];exact k,p]]
 .rw[A4 (Sv b #[#[y,q],n])];exact S.F5 b y q n t
 .by_cases g:b=a
  .subst g;exact#[_,A6]
  .rw[A4 g];exact S.FQ b y q
def Gq(W:Wd)(f:C->List C->Option C):V->List V->Hp->VK->Prop:=λx vs H Q=>∃own bor c cs c',AF W H own bor c x/\BB W H (λ_ _=>True) (λ_=>True) 0 cs vs/\f c cs=some c'/\a8 W H own bor c' x Q
variable{Fs:Env->Res (List C)}
theorem O6{i:Nat}{f:C->List C->Option C}(S:Aq W Hin A0 Bo H U Y)(h:Bh W Hin A0 Bo [] D Y ((Fs U).fl λcs=>match(A8 U i).bind λc=>f c cs with|some c'=>.nx (U.set i (some c'))|none=>.stuck))(b:A8 U i=some c)(g:Y[i]? =some (some x)):
 tG W (NP W) Fs Y H λvs H2=>Gq W f x vs H2 λ_ p=>D.nx Y p:=by
 refine#[U,_,S.rev,h.step S λcs vs H1 e t ⟨P,r⟩ h1=>?_];have k:=S.ext e t;rintro⟨O,j⟩:k.env;rw[b]at h1;cases e1:f c cs with
 |none=>rw[show(some c).bind (λc=>f c cs)=none from e1]at h1;exact h1.elim
 |some c'=>
   rw[show(some c).bind (λc=>f c cs)=some c' from e1]at h1;rintro⟨v,d,l⟩:j i c b;rw[g]at d;cases d;exact#[_,_,c,cs,c',l,r.imp (Ext.refl _) (λ_ _ _=>trivial) (λ_ _=>trivial),e1,λa o o' u m n mu r'=>h1 Y _ (k.chg j b g m n mu r') (AL.refl _ _)]
theorem PY{c:C}(h:c.SW=true):∃ps,c= .lst true ps:=by
 cases c with
 |lst o ps=>cases (show o=true from h);exact#[ps,rfl]
 |_=>cases h
theorem Uk{i:Nat}{f:C->List C->Option C}{r:V->List V->Hp->VK->Prop}(K:Frag)(l:∀x vs H Q,Gq W f x vs H Q->r x vs H Q)
 (h:tS W [] (λU=>if !(A8 U i).any C.SW then .stuck else(Fs U).fl λcs=>match(A8 U i).bind λc=>f c cs with|some c'=>.nx (U.set i (some c'))|none=>.stuck) D Y H):Js (cY K "list" r (ES i) (tG W (NP W) Fs)) D Y H:=by
 rintro⟨Hin,A0,Bo,U,S,b⟩:h;rintro⟨O,m⟩:S.env;cases d:A8 U i with
 |none=>simp only[d]at b;exact b.elim
 |some c=>
   cases e:c.SW with
   |false=>simp only[d,Option.any_some,e]at b;exact b.elim
   |true=>
     replace b:Bh W Hin A0 Bo [] D Y (if(!(A8 U i).any C.SW)=true then .stuck else(Fs U).fl λcs=>match(A8 U i).bind λc=>f c cs with|some c'=>.nx (U.set i (some c'))|none=>.stuck):=b;rw[iN (by rw[d];simp[e])]at b;rintro⟨ps,rfl⟩:PY e;rintro⟨v,g,k⟩:m i _ d;have j:=k;rintro⟨a,vs,rfl,k1,k2⟩:j;refine#[_,g,.inl #[rfl,vs,DP.of k1.1],?_];rintro⟨U',B,R,z⟩:O6 S b d g;exact#[U',B,R,z.imp λvs H' y=>l _ _ _ _ y]
theorem G1{c:C}{ps:List P}(h:c.Pf=some ps):c= .lst true ps:=by
 cases c with
 |lst o qs=>
   cases o with
   |true=>cases h;rfl
   |false=>cases h
 |_=>cases h
theorem EF{own bor:Addr->Prop}{ps qs:List P}{Q:VK}(h:AF W H own bor (.lst true ps) x)(q:a8 W H own bor (nw qs) x Q):∃l vs,x= .ref l/\H l=some (.lst vs)/\Cw W H ps vs/\∀ws u,Cw W H qs ws->Q u (upd H l (.lst ws)):=by
 rintro⟨a,vs,e,k1,k2⟩:h;refine#[a,vs,e,k1.1,k2,λws u r=>q a _ _ u k1.2 k1.1 EX #[a,ws,e,#[A6,k1.2],r.mono (BR k1.1 EX.1 EX.2.1)]]
theorem Um{own:Nat->Addr->Prop}{bor:Addr->Prop}{c:C}(h:BB W H own bor 0 [c] vs):∃v,vs=[v]/\AF W H (own 0) bor c v:=by
 rintro⟨v,r,rfl,h1,h2⟩:h;exact#[v,by rw[show r=[]from h2],h1]
theorem OC{own:Nat->Addr->Prop}{bor:Addr->Prop}{c d:C}(h:BB W H own bor 0 [c,d] vs):∃v u,vs=[v,u]/\AF W H (own 0) bor c v/\AF W H (own 1) bor d u:=by
 rintro⟨v,r,rfl,h1,u,a,rfl,h2,b⟩:h;exact#[v,u,by rw[show a=[]from b],h1,h2]
variable{cs:List C}
theorem P4{g:C->C->Option C}{c':C}(h:EL g c cs=some c'):∃a,cs=[a]/\g c a=some c':=by
 unfold EL at h;split at h
 .exact#[_,rfl,h]
 .cases h
theorem IC{g:C->C->C->Option C}{c':C}(h:Dt g c cs=some c'):∃a b,cs=[a,b]/\g c a b=some c':=by
 unfold Dt at h;split at h
 .exact#[_,_,rfl,h]
 .cases h
theorem Pp:∀x vs H Q,Gq W (EL LK) x vs H Q->Ma x vs H Q:=by
 rintro x vs H Q ⟨own,bor,c,cs,c',h1,h2,e,q⟩
 rintro⟨a,rfl,e⟩:P4 e;rintro⟨ps,ep,e⟩:Ab e;rintro⟨y,d,e⟩:Ab e;rintro⟨hl,rfl⟩:A3 e;cases G1 ep;cases C.BO d;rintro⟨v,rfl,r⟩:Um h2;rintro⟨l,ws,rfl,k1,k2,b⟩:EF h1 q;have:=Paired.length k2;have:=Bw;exact#[l,ws,v,rfl,rfl,k1,by lia,b _ _ (Pd.append k2 (.cons r .nil))]
structure Walk(W:Wd)(J:It)(xs:List P)(g:Hp->Prop):Prop where
 go:∀i H,g H->i < xs.length->J.go i H
 LS:∀i H x H',g H->i < xs.length->J.LS i H x H'->Dd H H'/\∃p,xs[i]? =some p/\A5 W H' p x
 stop:∀H,g H->J.stop xs.length H
def wI(W:Wd)(k:Sq)(tl:TE):TI:=λY H R=>tl Y H λv H1=>∃c xs,Dk W H1 c v/\k c=some xs/\∀J,Walk W J xs (λH=>Dk W H c v)->R J H1
def Yd(W:Wd)(k:Sq)(ta tb:TE):TI:=λY H R=>ta Y H λu H1=>tb Y H1 λv H2=>∃x y xs,A5 W H2 x u/\A5 W H2 y v/\k (.p (.tup [x,y]))=some xs/\∀J,Walk W J xs (λH=>A5 W H x u/\A5 W H y v)->R J H2
def cz(H H1:Hp)(c:C)(gc:Hp->Prop):Prop:=(∀H',Ext H1 H'->gc H')/\(c.own=true->∀H',AH H1 H'->(∀a x,H a=none->H1 a=some x->CB x=false->H' a=some x)->gc H')
def Src(W:Wd)(k:Sq)(F:Env->Res C)(wi:TI):Prop:=∀{Y:L2.St} {H:Hp} {R:It->Hp->Prop} {U:Env} {B:Addr->Prop} {c:C} {xs:List P},Kr W B H U Y->F U= .ok c->k c=some xs->(∀H1 gc J,Ext H H1->Bx W H1->cz H H1 c gc->Walk W J xs gc->R J H1)->wi Y H R
variable{W:Wd}
theorem Ir{k:Sq}{F:Env->Res C}:Src W k F (wI W k (tG W (rV W) F)):=λ{Y H R U B c xs} l i g h=>by
 refine#[U,B,l,?_];rw[i];intro v H1 e t r;refine#[c,xs,r.rd,g,λJ f=>h H1 _ J e t #[λH' j=>r.rd.ext j (λ_ z=>z) λ_ z=>z,λb H' kp d=>?_] f];exact AF.mono (D6 (bor':=λ_=>False) b r λa x z _=>z) kp (λa x p q n=>#[d a x p q n,trivial]) λa x p q n=>p.elim
theorem M5{k:Sq}{F G:Env->Res C}:Src W k (λU=>(F U).bind λx=>(G U).bind λy=>Res.of (Gv x y)) (Yd W k (tG W (rV W) F) (tG W (rV W) G)):=λ{Y H R U B c xs} f a j h=>by
 rintro⟨n,e1,a⟩:CA a;rintro⟨m,e2,a⟩:CA a;rintro⟨x,ex,l⟩:Ab (P5 a);rintro⟨y,i,rfl⟩:AU l;cases C.BO ex;cases C.BO i;refine#[U,B,f,?_];rw[e1];intro u H1 f1 t1 d;refine#[U,B,f.ext f1 t1,?_];rw[e2];intro v H2 f2 t2 b;refine#[x,y,xs,A5.mono f2.keep d,b,j,λJ g=>h H2 _ J (f1.trans f2) t2 #[λH' e=>?_,λ_ H' kp _=>?_] g]
 .exact#[A5.mono (f2.keep.trans e.keep) d,A5.mono e.keep b]
 .exact#[A5.mono (f2.keep.trans kp) d,A5.mono kp b]
def XQ:List Nat->QX
 |[]=>ZH
 |i::is=>UK (Ez i) (XQ is)
def gT(W:Wd):Tg->TG
 |.nm i=>Ez i
 |.tup is=>X5 W.K is.length (XQ is)
variable{as:List Nat}
theorem Aq.Ow{i:Nat}(S:Aq W Hin A0 Bo H U Y)(hi:i < Y.length)(a:A5 W H p v):Aq W Hin A0 Bo H (U.set i (some (.p p))) (Y.set i (some v)):=S.set (c:=.p p) (B:=λ_=>True) (Ext.refl H) S.tb hi rfl a
theorem Lo{Q:L2.St->Hp->Prop}:∀{is:List Nat} {ps:List P} {vs:List V} {U:Env} {Y:L2.St},Cw W H ps vs->is.length=ps.length->Aq W Hin A0 Bo H U Y->(∀i∈is,i < Y.length)->
 (∀Y',Aq W Hin A0 Bo H ((is.zip ps).foldl (λr q=>r.set q.1 (some (.p q.2))) U) Y'->AL is Y Y'->Q Y' H)->XQ is vs Y H Q
 |[],_,_,U,Y,.nil,hl,S,hi,q=>#[rfl,q Y S (AL.refl _ _)]
 |[],_,_,_,_,.cons _ _,hl,_,_,_=>by cases hl
 |i::is,_,_,_,_,.nil,hl,_,_,_=>by cases hl
 |i ::is,_,_,U,Y,.cons h1 h2,hl,S,hi,q=>⟨_,_,rfl,Lo h2 (Nat.succ.inj hl) (S.Ow (hi i mS) h1) (λj a=>by rw[length_set];exact hi j (mem_cons_of_mem _ a)) λY' s w=>
     q Y' s ((AL.set mS).trans (w.mono λj a=>mem_cons_of_mem _ a))⟩
theorem ZE{Q:L2.St->Hp->Prop}{g:Tg}{U':Env}(e:Cs g p U=some U')(c:A5 W H p v)(S:Aq W Hin A0 Bo H U Y)(hi:∀i∈g.slots,i < Y.length)(q:∀Y',Aq W Hin A0 Bo H U' Y'->AL g.slots Y Y'->Q Y' H):gT W g v Y H Q:=by
 cases g with
 |nm i=>
   cases e;exact q _ (S.Ow (hi i mS) c) (AL.set mS)
 |tup is=>
   rintro⟨ps,e1,e⟩:Ab e;rintro⟨hl,rfl⟩:A3 e;cases P.Bs e1;rintro⟨a,vs,rfl,s1,b⟩:A9.mp c;exact#[a,vs,rfl,s1,by rw[<-Paired.length b,<-hl],Lo b hl S hi q]
theorem F6{g:Tg}{bs:List Nat}{B:Env->Fl}{J:It}{xs:List P}{A:Hp->Prop}(l:Walk W J xs A)(f:∀H' U' Y',Aq W Hin A0 Bo H' U' Y'->A H')(hi:∀i∈g.slots,i < Y.length)(S:Aq W Hin A0 Bo H U Y)(M:Bh W Hin A0 Bo (g.slots++bs) D Y (forL g B xs U)):
 ∃o:Nat->Nat->L2.St->Hp->Prop,(∃m,o 0 m Y H)/\∀i m Y' H',o i m Y' H'->(J.stop i H'/\D.nx Y' H')\/(J.go i H'/\∃N:L2.St->Hp->Prop,(∀Y2 H2,N Y2 H2->∃v,v < m/\o (i+1) v Y2 H2)/\∀x H2,J.LS i H' x H2->gT W g x Y' H2 λE T=>tS W bs B {nx:=N,rt:=D.rt,bk:=D.nx,ct:=N} E T):=by
 refine#[λi m Y' H'=>m=xs.length-i/\i<=xs.length/\∃U',Aq W Hin A0 Bo H' U' Y'/\AL (g.slots++bs) Y Y'/\Bh W Hin A0 Bo (g.slots++bs) D Y' (forL g B (xs.drop i) U'),#[xs.length,rfl,Nat.zero_le _,U,S,AL.refl _ _,M],?_]
 rintro i m Y' H' ⟨rfl,L,U',d,y,a⟩
 have h:=f H' U' Y' d;have u:∀i∈g.slots,i∈g.slots++bs:=λi hi=>mL hi
 have t:∀i∈bs,i∈g.slots++bs:=λi hi=>mR hi
 by_cases hlt:i < xs.length
 .rw[drop_eq_getElem_cons hlt]at a;refine .inr #[l.go i H' h hlt,λY2 H2=>∃U',Aq W Hin A0 Bo H2 U' Y2/\AL (g.slots++bs) Y Y2/\Bh W Hin A0 Bo (g.slots++bs) D Y2 (forL g B (xs.drop (i+1)) U'),λY2 H2 z=>#[xs.length-(i+1),by lia,rfl,hlt,z],λx H2 I=>?_];rintro⟨s2,p,ep,G⟩:l.LS i H' x H2 h hlt I;have ep:xs[i]=p:=by rw[List.getElem?_eq_getElem hlt]at ep;exact Option.some.inj ep
  rw[ep]at a;have R:=d.ext (.of s2) (d.tb.same s2);replace a:Bh W Hin A0 Bo (g.slots++bs) D Y' (match Cs g p U' with|some O=>(B O).turn (forL g B (xs.drop (i+1)))|none=>.stuck):=a;cases es:Cs g p U' with
  |none=>rw[es]at a;exact a.elim
  |some U2=>
    rw[es]at a;refine ZE es G R (λj K=>by rw[y.1];exact hi j K) λE Q q=>#[Hin,A0,Bo,U2,Q,?_]
    have b:=Bh.later (r:=(B U2).turn (forL g B (xs.drop (i+1)))) a (q.mono u);have k:=y.trans (q.mono u);cases n:B U2 with
    |nx F=>rw[n]at b;exact λV Z s w=>#[F,s,k.trans (w.mono t),Bh.later (r:=forL g B (xs.drop (i+1)) F) b (w.mono t)]
    |stuck=>rw[n]at b;exact b
    |ret c=>rw[n]at b;exact b
 .have e:i=xs.length:=by lia
  subst e;rw[List.drop_length]at a;exact .inl #[l.stop H' h,a Y' H' d (AL.refl _ _)]
section
variable{H1 H2:Hp}{U2:Env}{Y2:L2.St}{w:Addr->Prop}
theorem Aq.congr{U':Env}(S:Aq W Hin A0 Bo H U Y)(h:∀j,A8 U' j=A8 U j)(hl:U'.length=U.length):Aq W Hin A0 Bo H U' Y:=
 #[S.len.trans hl.symm,S.tb,let⟨O,k⟩:=S.env;#[O,λi c q=>k i c (by rw[<-h];exact q)],S.bo,S.F5,S.FQ,S.kp]
def ownIn(Hin:Hp)(A0:Addr->Prop)(H:Hp)(w:Addr->Prop):Addr->Prop:=λb=>(∃x,H b=some x)/\(Hin b=none\/A0 b)/\¬w b
theorem Aq.Sv(S:Aq W Hin A0 Bo H U Y){j:Nat}(h:Bo j a):¬ownIn Hin A0 H w a:=λz=>by
 rintro⟨⟨x,q⟩,n⟩:S.bo j a h;rcases z.2.1 with k|k
 .rw[k]at q;cases q
 .exact n k
theorem Aq.into(S:Aq W Hin A0 Bo H U Y)(e:Ext H H1)(t:Bx W H1):Aq W H1 (ownIn Hin A0 H λ_=>False) Bo H1 U Y:=by
 rintro⟨O,h⟩:S.env;refine#[S.len,t,#[O,λi c q=>?_],λi a z=>#[?_,S.Sv z],λb x q _ _=>q,λb x q=>#[x,q],AH.refl _]
 .obtain⟨v,f,d⟩:=h i c q;exact#[v,f,d.mono e.keep (λa x p k n=>#[e.but a x k n,p.1,.inr #[#[x,k],p.2,id]]) λa x p k n=>#[e.but a x k n,p]]
 .obtain⟨⟨x,q⟩,_⟩:=S.bo i a z;rintro⟨y,q⟩:S.FQ a x q;exact e.there a y q
variable{Bo':Nat->Addr->Prop}
theorem Aq.Z2(S:Aq W Hin A0 Bo H U Y)(e:Ext H H1)(c:Aq W H1 (ownIn Hin A0 H w) Bo' H2 U2 Y2):(∀b x,Hin b=some x->¬A0 b->CB x=false->H2 b=some x)/\(∀b x,Hin b=some x->∃y,H2 b=some y)/\AH Hin H2/\∀b,(H1 b=none\/ownIn Hin A0 H w b)->Hin b=none\/A0 b:=
 ⟨λb x q n a=>c.F5 b x (e.but b x (S.F5 b x q n a) a) (λz=>by
     rcases z.2.1 with k|k
     .rw[k]at q;cases q
     .exact n k) a,λb x q=>let⟨y,q⟩:=S.FQ b x q;let⟨z,q⟩:=e.there b y q;c.FQ b z q,(S.kp.trans e.keep).trans c.kp,λb z=>z.elim (λk=>.inl (S.new (e.none k))) λk=>k.2.1⟩
theorem Aq.out(S:Aq W Hin A0 Bo H U Y)(e:Ext H H1)(b:Aq W H1 (ownIn Hin A0 H λ_=>False) Bo H2 U2 Y2):Aq W Hin A0 Bo H2 U2 Y2:=by
 rintro⟨f1,f2,g,f4⟩:S.Z2 e b;rintro⟨O,h⟩:b.env;refine#[b.len,b.tb,#[O,λi c q=>?_],S.bo,f1,f2,g];rintro⟨v,f,d⟩:h i c q;exact#[v,f,d.ext (Ext.refl _) (λa z=>#[z.1,f4 a z.2]) λ_ z=>z]
theorem DC.out(S:Aq W Hin A0 Bo H U Y)(e:Ext H H1)(r:DC W H1 (ownIn Hin A0 H w) c v H2):DC W Hin A0 c v H2:=by
 rintro⟨j,i,h,g,f⟩:r;refine#[j.ext (Ext.refl _) (λa z=>z.elim (λk=>.inl (S.new (e.none k))) λk=>k.2.1) λ_ z=>z,i,λb x q n d=>h b x (e.but b x (S.F5 b x q n d) d) (λz=>?_) d,λb x q=>?_,(S.kp.trans e.keep).trans f]
 .rcases z.2.1 with k|k
  .rw[k]at q;cases q
  .exact n k
 .obtain⟨y,q⟩:=S.FQ b x q;rintro⟨z,q⟩:e.there b y q;exact g b z q
theorem IW{a:Hp}{b:Addr->Prop}{f:Env->Env}{r:Fl}(h:Bh W Hin A0 Bo as D Y (r.fin f))(hs:∀U2 Y2 H2,Aq W a b Bo' H2 U2 Y2->AL as Y Y2->Aq W Hin A0 Bo H2 (f U2) Y2)(d:∀c v H2,DC W a b c v H2->DC W Hin A0 c v H2):Bh W a b Bo' as D Y r:=by
 cases r with
 |nx U2=>exact λY2 H2 s u=>h Y2 H2 (hs U2 Y2 H2 s u) u
 |ret c=>exact λv H2 r=>h v H2 (d c v H2 r)
 |stuck=>exact h.elim
theorem YK{k:Sq}{g:Tg}{bs:List Nat}{F:Env->Res C}{B:Env->Fl}{wi:TI}(hw:Src W k F wi)(hi:∀i∈g.slots,i < Y.length)(h:tS W (g.slots++bs) (λU=>(F U).fl λc=>match k c with|some xs=>if c.own then(forL g B xs U).fin id else .stuck|none=>.stuck) D Y H):
 Vj wi (gT W g) (tS W bs B) D Y H:=by
 rintro⟨Hin,A0,Bo,U,S,b⟩:h;cases j:F U with
 |stuck=>simp only[j]at b;exact b.elim
 |ok c=>
   simp only[j,Res.fl]at b;cases d:k c with
   |none=>rw[d]at b;exact b.elim
   |some xs=>
     simp only[d]at b;split at b
     case isFalse=>exact b.elim
     rename_i m;refine hw S.rev j d λH1 r J e t st o=>F6 (A0:=ownIn Hin A0 H λ_=>False) (Bo:=Bo) o (λH' U' Y' l=>?_) hi (S.into e t) (IW (f:=id) b (λU2 Y2 H2 s u=>S.out e s) λc v H2 z=>DC.out S e z)
     exact st.2 m H' l.kp λa x p q n=>l.F5 a x q (λz=>by rintro⟨⟨y,z⟩,_⟩:z;rw[p]at z;cases z) n
theorem VE{k:Sq}(T:∀o kvs,k (.Bl o kvs)=none)(G:∀o fs,k (.obj o fs)=none){g:Tg}{bs:List Nat}{i:Nat}{B:Env->Fl}(hi:∀i∈g.slots,i < Y.length)(h:tS W (g.slots++bs) (λU=>match(A8 U i).bind λc=>k c.bor with
 |some xs=>if(g.slots++bs).contains i then .stuck else(forL g B xs (U.set i ((A8 U i).map C.bor))).fin (Ra (A8 U i) i)
 |none=>.stuck) D Y H):Vj (wI W k (ES i)) (gT W g) (tS W bs B) D Y H:=by
 rintro⟨Hin,A0,Bo,U,S,m⟩:h;rintro⟨O,V⟩:S.env;cases I:A8 U i with
 |none=>simp only[I]at m;exact m.elim
 |some c=>
   simp only[I,Option.bind_some,Option.map_some]at m;cases r:k c.bor with
   |none=>simp only[r]at m;exact m.elim
   |some xs =>
     simp only[r]at m;split at m
     .exact m.elim
     rename_i A;have A:i∉g.slots++bs:=λz=>A (by simpa using z)
     rintro⟨v,M,L⟩:V i c I;have hil:=IQ I;cases hl:c.SW with
     |false=>
       have y:c.bor=c:=by
        cases c with
        |lst o ps=>cases (show o=false from hl);rfl
        |Bl o ps=>rw[show(C.Bl o ps).bor= .Bl false ps from rfl,T]at r;cases r
        |obj o ps=>rw[show(C.obj o ps).bor= .obj false ps from rfl,G]at r;cases r
        |p x=>rfl
       have P:Ra (some c) i=id:=funext λU=>by unfold Ra;rw[Option.any_some,hl];rfl
       rw[y,P]at m
       have R:=(S.into (Ext.refl H) S.tb).congr (U':=U.set i (some c)) (λj=>by
        rw[Cq];split
        .rename_i e;subst e;exact I.symm
        .rfl) (length_set ..)
       refine#[v,M,c.bor,xs,(L.rd).borrow λ_ z=>z,r,λJ Q=>F6 (A0:=ownIn Hin A0 H λ_=>False) (Bo:=Bo) Q (λH' U' Y' F=>?_) hi R (IW (f:=id) m (λU2 Y2 H2 s u=>S.out (Ext.refl H) s) λc v H2 z=>DC.out S (Ext.refl H) z)];rw[y];cases c with
       |p x=>exact A5.mono F.kp L
       |obj o ps=>rw[show(C.obj o ps).bor= .obj false ps from rfl,G]at r;cases r
       |lst o ps=>
         cases (show o=false from hl);exact AF.mono (own:=λ_=>False) (bor:=Bo i) L F.kp (λ_ _ z=>z.elim) λa x p q n=>#[F.F5 a x q (S.Sv p) n,trivial]
       |Bl o ps=>rw[show(C.Bl o ps).bor= .Bl false ps from rfl,T]at r;cases r
     |true=>
       rintro⟨ps,rfl⟩:PY hl;rintro⟨a,vs,rfl,⟨k1,k2,k3⟩,N⟩:L;have P:Ra (some (.lst true ps)) i=λU=>U.set i ((A8 U i).map C.cT):=rfl
       rw[P]at m
       let w:Addr->Prop:=λb=>b=a
       let Bo':Nat->Addr->Prop:=λj b=>Bo j b\/(j=i/\b=a)
       have na:¬ownIn Hin A0 H w a:=λz=>z.2.2 rfl
       have R:Aq W H (ownIn Hin A0 H w) Bo' H (U.set i (some (.lst false ps))) Y:=by
        refine#[by rw[length_set];exact S.len,S.tb,#[O,λj d q=>?_],λj b z=>?_,λb x q _ _=>q,λb x q=>#[x,q],AH.refl _]
        .rw[Cq]at q;split at q
         .rename_i e;subst e;cases q;exact#[_,M,a,vs,rfl,.inl #[k1,.inr #[rfl,rfl]],N]
         .rename_i e;rintro⟨u,E,t⟩:V j d q;exact#[u,E,t.mono (AH.refl _) (λb x p k n=>#[k,p.1,.inr #[#[x,k],p.2,λz=>e (by rw[<-k2,<-p.1,show b=a from z])]]) λb x p k n=>#[k,.inl p]]
        .rcases z with z|⟨_,rfl⟩
         .obtain⟨⟨x,q⟩,_⟩:=S.bo j b z;exact#[S.FQ b x q,S.Sv z]
         .exact#[#[_,k1],na]
       refine#[_,M,.lst false ps,xs,#[a,vs,rfl,.inl #[k1,trivial],N],r,λJ Q=>F6 (A0:=ownIn Hin A0 H w) (Bo:=Bo') Q (λH' U' Y' F=>#[a,vs,rfl,.inl #[F.F5 a _ k1 na rfl,trivial],N.mono F.kp]) hi R (IW m (λU2 Y2 H2 s u=>?_) λc v H2 z=>DC.out S (Ext.refl H) z)];rintro⟨f1,f2,f3,f4⟩:S.Z2 (Ext.refl H) s;rintro⟨O2,h2⟩:s.env;have e2:H2 a=some (.lst vs):=s.F5 a _ k1 na rfl;have Z:Y2[i]? =some (some (.ref a)):=by rw[u.2 i A];exact M
       refine#[by rw[length_set];exact s.len,s.tb,#[λb=>if b=a then i else O2 b,λj d q=>?_],S.bo,f1,f2,f3];rw[Cq]at q;split at q
       .rename_i e;subst e;split at q
        case isFalse=>cases q
        rintro⟨d0,ed,rfl⟩:AU q;rintro⟨u',E,t⟩:h2 i d0 ed;rw[Z]at E;cases E;refine#[_,Z,?_];cases d0 with
        |p x=>exact t
        |obj o fs=>
          rintro⟨b,dx,ws,y,l,K⟩:t;cases y;exact absurd (e2.symm.trans l) λz=>HO.noConfusion (Option.some.inj z)
        |lst o qs=>
          rintro⟨b,ws,y,l,K⟩:t;cases y;refine#[a,ws,rfl,?_,K];cases o with
          |true=>
            rcases l.2.2 with z|z
            .rw[k1]at z;cases z
            .exact absurd z na
          |false=>
            rcases l with l|⟨ob,l⟩
            .exact#[l.1,iP rfl,k3]
            .rw[e2]at l;cases l
        |Bl o qs=>
          rintro⟨b,ws,y,l,K⟩:t;cases y;refine#[a,ws,rfl,?_,K];cases o with
          |true=>exact absurd (e2.symm.trans l.1) λz=>HO.noConfusion (Option.some.inj z)
          |false=>
            rcases l with l|l
            .exact absurd (e2.symm.trans l.1) λz=>HO.noConfusion (Option.some.inj z)
            .exact .inr l
       .rename_i e;rintro⟨u',E,t⟩:h2 j d q;refine#[u',E,t.mono (AH.refl _) (λb x p k n=>#[k,?_,f4 b p.2]) λb x p k n=>#[k,p.resolve_right λz=>e z.1.symm]]
        have hb:b≠a:=λz=>by
         subst z;rcases p.2 with z|z
         .rw[k1]at z;cases z
         .exact na z
        show(if b=a then i else O2 b)=j;rw[iN hb];exact p.1
end
end Nv
namespace Nv
open PySem PySem.Spec L2 PyProof.Rows
section
variable{prog:Program}{w:World}{A:Around}{R:Result->Shared->Prop}{s:Shared}
abbrev tests(ifs:List Expr)(env:PySem.Env):Sem Bool:=forIn ifs true λc r=>if r=true then do let ok <-isTrue c env (eval c env);pure (ForInStep.yield ok)else pure (ForInStep.yield r)
theorem L8{elt target iter:Expr}{ifs:List Expr}{scope:Scope}{pos:Pos}{it acc:Value}{env:PySem.Env}(I:Nat->Shared->Prop)
 (turn : ∀n s,I n s->wpAny (model prog w) A (pyNext it) (λr c=>match r with
  |none=>R (.ok .next) c
  |some v=>wpAny (model prog w) A (letOwnedTupleGo target it v) (λ_ s₀=>wpAny (model prog w) A (assign target env v) (λ_ f=>wpAny (model prog w) A (tests ifs env) (λok b=>
   if ok=true then wpAny (model prog w) A (eval elt env) (λx e=>
    wpAny (model prog w) A (call (.builtin "list.append") [acc,x]) (λ_ d=>∃m,m < n/\I m d) (λ_ _=>False) e) (λ_ _=>False) b else ∃m,m < n/\I m b) (λ_ _=>False) f) (λ_ _=>False) s₀) (λ_ _=>False) c) (λ_ _=>False) s)
 (n:Nat)(h:I n s):codeAny (model prog w) A (.compLoop (.ListComp elt [#[target,iter,ifs,0]] scope pos) 0 it acc env) R s:=by
 refine codeAny_loop rfl I (λn s l=>?_) n h;show wpAny _ _ ((compTurn (.ListComp elt [#[target,iter,ifs,0]] scope pos) 0 it acc env).onRaise (λx=>noteFrame x env >>= λ_=>theTreesLotGoes x)) _ _ s;refine wpAny_noted ?_;rw[compTurn_list];refine wB (wpAny_standAt (wB (wpAny_mono (turn n s l) (λr c g=>?_) λ_ _ z=>z.elim)));cases r with
 |none=>exact wpAny_pure g
 |some v=>
   refine wB (wpAny_mono g (λ_ s₀ h₀=>wB (wpAny_mono h₀ (λ_ f k=>wB (wpAny_mono k (λok b a=>?_) λ_ _ z=>z.elim)) λ_ _ z=>z.elim)) λ_ _ z=>z.elim);cases ok with
   |true=>
     rw[iP rfl]at a;exact wB (wB (wpAny_mono a (λx e j=>wB (wpAny_mono j (λ_ d i=>wpAny_pure (wpAny_pure #[rfl,i])) λ_ _ z=>z.elim)) λ_ _ z=>z.elim))
   |false=>
     rw[iN Bool.false_ne_true]at a;exact wpAny_pure #[rfl,a]
end
section
variable{X:Cx}{elt iter tg:Expr}{ifs:List Expr}{scope:Scope}{pos:Pos}{N:List Str}{fr:List (Option Nat)}{g:TG}{te:TE}{tc:TT}{wi:TI}
def Xw(X:Cx)(ifs:List Expr)(t:TT):Prop:=
 ∀(p0:Oa) (s:Shared) (Y:L2.St) (H:Hp) (Q:Bool->Hp->Prop),∅->t Y H Q->(X|||(tests ifs X.env)) (TP X p0 Y Q) X.xe s
theorem S4:Xw X [] (λY H Q=>Q true H):=λp0 s Y H Q I h=>wpAny_tests_nil #[H,I,h]
theorem S0(h:PT X c tc):Xw X [c] tc:=λp0 s Y H Q I k=>wpAny_tests_one (h p0 s Y H Q I k)
def QM(J:It)(g:TG)(tc:TT)(te:TE)(Y0:L2.St)(H0:Hp)(Q:List V->Hp->Prop):Prop:=∃W:Nat->List V->Nat->L2.St->Hp->Prop,(∃m,W 0 [] m Y0 H0)/\∀i acc m Y' H',W i acc m Y' H'->
 (J.stop i H'/\Q acc H')\/(J.go i H'/\acc.length < sizeLine/\∀x H2,J.LS i H' x H2->g x Y' H2 λY2 H3=>tc Y2 H3 λb H4=>if b=true then te Y2 H4 λy H5=>∃m',m' < m/\W (i+1) (acc++[y]) m' Y2 H5 else ∃m',m' < m/\W (i+1) acc m' Y2 H4)
theorem QD{p0:Oa}{Y:L2.St}{H:Hp}{s:Shared}{J:It}{fp:List Addr}{it:Addr}{tn:Nat->Heap->Prop}{Q:List V->Hp->Prop}{E:Va}(hc:X.calm=true)(ok:Df X.N X.env.scope N scope fr)
 (a:∀C s H fp,PG (AQ X N scope C s H fp) tg g/\PE (AQ X N scope C s H fp) elt te/\Xw (AQ X N scope C s H fp) ifs tc)(I:∅)(T:Turn X.prog X.w X.K tg J fp it tn)(t0:tn 0 s.heap)(hf:∀b∈fp,Fh X p0 H b)
 (hW:QM J g tc te (DA fr Y) H Q):
 (X|||(newList [])) (λacc j=>(X|||(newFunctionEnv scope X.env.globals (GU X.env.cells scope.names []) [] X.env.qual none .none (some X.env))) (λS s₄=>
  codeAny (model X.prog X.w) X.A (.compStart (.ListComp elt [#[tg,iter,ifs,0]] scope pos) 0 (.ref it) acc {S with scope:=relabel scope X.env}) (CompEnd X p0 Y Q acc S.locals) s₄) E j) E s:=by
 have hfl:∀b∈fp,b < s.heap.objs.size:=λb a=>by
  rintro⟨o,e,_⟩:T.obj 0 _ t0 b a;exact hZ e
 refine wpAny_newObj_type (wpAny_newFunctionEnv ok.CI (by intro y hy;simp at hy) (λB h f=>?_) ok.kind);dsimp only at h f ⊢;generalize hH2:s.heap.push {cls:=.type "list",dict:=none,data:=.seq ([]:List Value).toArray}=H2 at h f ⊢;have hC:H2.objs.size=s.heap.objs.size+1:=by rw[<-hH2,Heap.size_push]
 have hDC:s.heap.objs.size≠H2.objs.size:=by rw[hC];exact Nat.ne_of_lt (Nat.lt_succ_self _)
 have R:s.heap.objs.size<=H2.objs.size:=by rw[hC];exact Nat.le_succ _
 have old:∀b o,s.heap.get? b=some o->B.get? b=some o:=λb o e=>
  f.extBut b o (by rw[hC];exact Nat.ne_of_lt (Nat.lt_succ_of_lt (hZ e))) (gP (hH2▸gP e))
 have hacc:B.get? s.heap.objs.size=some {cls:=.type "list",dict:=none,data:=.seq ([]:List Value).toArray}:=f.extBut _ _ hDC (gP (hH2▸Heap.get?_push_size _ rfl));rintro⟨W,⟨m0,w0⟩,turn⟩:hW;rintro⟨hg,he,ht⟩:a H2.objs.size s H fp;have I1:=Qs (N:=N) (fr:=fr) (tk:=s.toks+([]:List (Str×Value)).length) I ok hf hfl R h old;have P:s.heap.objs.size∉fp:=λz=>Nat.lt_irrefl _ (hfl _ z)
 have fpx:∀{H':Hp} {ps:Oa},(∀b∈fp,H' b=none)->(∀p∈ps,p.1=s.heap.objs.size)->∀b∈fp,Fh (AQ X N scope H2.objs.size s H fp) ps H' b:=λ{H' ps} hn l b a=>
  ⟨hn b a,(I1.ok.du b a).1,I1.ok.Xd b a,.inl a,(I1.ok.du b a).2,λp O z=>by
   have O:p∈([]:Oa)++ps:=O;rw[List.nil_append]at O
   exact P (by rw[<-l p O,z];exact a)⟩
 have loop :∀j:Shared,j={s with heap:=B,toks:=s.toks + ([]:List (Str×Value)).length}->
  codeAny (model X.prog X.w) X.A (.compLoop (.ListComp elt [#[tg,iter,ifs,0]] scope pos) 0 (.ref it) (.ref s.heap.objs.size) (compEnvC scope (GU X.env.cells scope.names []) H2.objs.size X.env))
   (CompEnd X p0 Y Q (.ref s.heap.objs.size) H2.objs.size) j:=by
  rintro j rfl
  refine L8 (λn s'=>∃i acc its k Y' H',Inv (AQ X N scope H2.objs.size s H fp) [(s.heap.objs.size,({cls:=.type "list",data:=.seq its k}:Obj))] Y' H' s'/\tn i s'.heap/\(∀b∈fp,H' b=none)/\acc.length<=sizeLine/\Vals acc its.toList/\W i acc n Y' H') ?_ m0
   #[0,[],[].toArray,0,DA fr Y,H,?_,?_,λb a=>(hf b a).1,Nat.zero_le _,.nil,w0]
  .rintro n s3 ⟨i,acc,its,k,Y3,H3,I3,st3,fr3,U,G,w3⟩
   have pinD:=I3.pin _ (mR mS);rcases turn i acc n Y3 H3 w3 with⟨stop,q⟩|⟨go,hlen,step⟩
   .refine AS (T.done (AQ X N scope H2.objs.size s H fp) rfl rfl rfl hc i _ s3 Y3 H3 _ I3 (fpx fr3 (by simp)) st3 stop) λr s4 ⟨hr,I4⟩=>?_
    subst hr;have p4:=I4.pin _ (mR mS);have J4:Inv X p0 Y H3 s4:=I.ZO (ch:=fp) I4.os I4.base I4.Aj I4.bare λb a=>#[(hf b a).2.2.2.1,(hf b a).2.1,(hf b a).2.2.2.2.1,(hf b a).2.2.2.2.2]
    have fD:Fh X p0 H3 s.heap.objs.size:=I.Lq (Nat.le_refl _) p4.2.1;have e4:s4.heap.get? s.heap.objs.size=some {cls:=.type "list",data:=.seq its.toList.toArray k}:=by simpa using p4.1
    refine#[rfl,_,H3,acc,rfl,p4.2.1,J4.Yo fD U G e4,?_,I.Lq R ?_,q]
    .obtain⟨m,hn,_⟩:=I4.loc;exact#[m,hn]
    .rw[A4 (Ne.symm hDC)];exact I4.free
   .refine AS (T.item (AQ X N scope H2.objs.size s H fp) rfl rfl rfl hc i _ s3 Y3 H3 _ I3 (fpx fr3 (by simp)) st3 go) λr s4 ⟨u,hr,h4⟩=>?_
    subst hr;refine AS h4 λ_ s5 ⟨x,H5,I5,r5,y5,t,fr5⟩=>?_
    have I5':=I5.pinned (fpx fr5 (by simp)) (T.obj _ _ t);refine AS (hg _ s5 Y3 H5 x u _ I5' r5 (step x H5 y5)) λ_ s6 ⟨Y6,H6,I6,q6⟩=>?_
    refine AS (ht _ s6 Y6 H6 _ I6 q6) λok s6' ⟨H6',F,L⟩=>?_
    cases ok with
    |false=>
      rw[iN Bool.false_ne_true]at L ⊢;rintro⟨m',hm,w7⟩:L;have M:=F.pin _ (mR (mL mS));refine#[m',hm,i+1,acc,its,k,Y6,H6',?_,?_,λb a=>?_,U,G,w7]
      .refine(F.D5 (pins':=[]) λp l=>absurd l (by simp)).D5 λp l=>?_
       have:p=(s.heap.objs.size,({cls:=.type "list",data:=.seq its k}:Obj)):=by simpa using l
       subst this;exact M
      .refine T.keep _ _ _ t λb a o e=>?_
       exact(F.pin (b,o) (mR (mR (C3 a e)))).1
      .obtain⟨o,e,d⟩:=T.obj _ _ t b a;exact(F.pin (b,o) (mR (mR (C3 a e)))).2.1
    |true=>
    rw[iP rfl]at L ⊢;refine AS (he _ s6' Y6 H6' _ F L) λy s7 ⟨z,H7,I7,r7,q7⟩=>?_
    rintro⟨m',hm,w7⟩:q7;have M:=I7.pin _ (mR (mL mS));have hsz:its.size=acc.length:=by rw[G.length];simp
    refine wpAny_list_append_plain (hsz:=by rw[hsz];exact U) #[k,M.1] λh₅ Z D=>?_
    rintro⟨k',e5⟩:Z;refine#[m',hm,i+1,acc++[z],its.push y,k',Y6,H7,?_,?_,λb a=>?_,?_,?_,w7]
    .have J7:Inv (AQ X N scope H2.objs.size s H fp) [] Y6 H7 s7:=I7.D5 λp l=>absurd l (by simp)
     have J8:Inv (AQ X N scope H2.objs.size s H fp) [] Y6 H7 {s7 with heap:=h₅}:=by
      refine J7.turned (t':=s7.toks) (it:=s.heap.objs.size) (λb o a e=>(D.2 b a).trans e) M.2.1 M.2.2.1 (.inr (Nat.le_refl _)) (λx c e z=>?_) λp l=>absurd (show p∈([]:Oa)from l) (by simp)
      rintro⟨v,oc,hoc,hod⟩:J7.cell x c e;rw[z,M.1]at hoc;cases hoc;cases hod
     refine J8.D5 λp l=>?_
     have:p=(s.heap.objs.size,({cls:=.type "list",data:=.seq (its.push y) k'}:Obj)):=by simpa using l
     subst this;exact#[e5,M.2.1,M.2.2.1,M.2.2.2.1,λv z=>by cases z]
    .refine T.keep _ _ _ t λb a o e=>?_
     have q:=(I7.pin (b,o) (mR (mR (C3 a e)))).1;exact(D.2 b (λz=>P (z▸a))).trans q
    .obtain⟨o,e,d⟩:=T.obj _ _ t b a;exact(I7.pin (b,o) (mR (mR (C3 a e)))).2.1
    .rw[lA,lS];exact hlen
    .rw[Array.toList_push];exact Vals.append G (.cons r7 .nil)
  .refine I1.D5 λp l=>?_
   have:p=(s.heap.objs.size,({cls:=.type "list",data:=.seq [].toArray 0}:Obj)):=by simpa using l
   subst this
   exact⟨hacc,I.Aj.fresh (Nat.le_refl _),hDC,λz=>I.Wx (Nat.le_refl _) (by
    rcases mem_cons.mp (I.Gh _ z)with e|e
    .exact absurd I.lt (by rw[<-e];exact Nat.lt_irrefl _)
    .exact e),λv z=>by cases z⟩
  .exact T.keep _ _ _ t0 λb _ o e=>old b o e
 refine codeAny_compStart_list (loop _ rfl) ?_;exact T.self _ 0 _ _ _ (T.keep _ _ _ t0 λb _ o e=>old b o e) (loop _ rfl)
def Im(wi:TI)(g:TG)(tc:TT)(te:TE)(fr:List (Option Nat)):TE:=λY H Q=>wi Y H λJ H1=>QM J g tc te (DA fr Y) H1 λxs H'=>∀p,H' p=none->Q (.ref p) (upd H' p (.lst xs))
theorem OX(N:List Str)(fr:List (Option Nat))(n:X.calm=true)(ok:Df X.N X.env.scope N scope fr)(hi:PI X tg iter wi)(i:∀C s H fp,PG (AQ X N scope C s H fp) tg g/\PE (AQ X N scope C s H fp) elt te/\Xw (AQ X N scope C s H fp) ifs tc)
 (hs:∀x,foldedSetIterable iter X.env x=pure x:=by intro _;rfl):PE X (.ListComp elt [#[tg,iter,ifs,0]] scope pos) (Im wi g tc te fr):=by
 intro p0 s Y H Q I h;rw[eval_ListComp];refine wpAny_comprehension_free (use:=none) rfl hs (Cr λy k e=>I.ok.has y.1 (ok.free y k e)) ok.kind ok.own ?_;refine AS (hi p0 s Y H _ I h) λv s1 h1=>AS h1 λj s2 h2=>?_
 rintro⟨it,fp,F,J,H2,e,B,T,d,f2,p⟩:h2;subst e;refine AS (QD (pos:=pos) (iter:=iter) (E:=X.xe) n ok i B T d f2 p) λacc s3 z=>AS z λc s4 w=>?_
 refine codeAny_mono w λr s5 u=>?_
 rintro⟨rfl,D,H',xs,rfl,t,A,⟨m,l⟩,a,q⟩:u;refine#[m,l,λh' f=>#[.ref D,_,A.turned (t':=s5.toks) (it:=c.locals) (λb o i e=>(f.2 b i).trans e) a.1 a.2.1 a.2.2.2.1 a.2.2.2.2.1 a.2.2.2.2.2,rfl,q D t]]
theorem OL{i:Nat}{y:Str}{py c:Pos}(N:List Str)(fr:List (Option Nat))(O:X.N.Nodup)(k:X.N[i]? =some y)(hl:X.env.scope.names.lookup y=some .local)(K:X.calm=true)(ok:Df X.N X.env.scope N scope fr)(hi:PI X tg iter wi)
 (t:∀C s H fp,PG (AQ X N scope C s H fp) tg g/\PE (AQ X N scope C s H fp) elt te/\Xw (AQ X N scope C s H fp) ifs tc)
 (l:swapsWith (.ListComp elt [#[tg,iter,ifs,0]] scope pos) (some (.Name y py)) c.line X.env=pure true:=by rfl)
 (hs:∀x,foldedSetIterable iter X.env x=pure x:=by intro _;rfl):PS X (.Assign [.Name y py] (.ListComp elt [#[tg,iter,ifs,0]] scope pos) c) (Ju (Im wi g tc te fr) (Ez i)):=by
 intro p0 s Y H Q I h;rw[exec_Assign_Name_used _ _ _ _ l];refine wB (wpAny_standAt (wB ?_));show wpAny _ X.A (do let _ <-comprehension (.ListComp elt [#[tg,iter,ifs,0]] scope pos) scope X.env _ (newList []) false (eval iter X.env) (some (assign (.Name y py) X.env))) _ _ s;refine wB (wpAny_mono (wpAny_comprehension_free (use:=some (assign (.Name y py) X.env)) (Q:=λ_ s'=>SP X p0 Q .next s') rfl hs (Cr λy k e=>I.ok.has y.1 (ok.free y k e)) ok.kind ok.own ?_) (λ_ s' hq=>wpAny_pure (wpAny_pure hq)) λ_ _ e=>e);refine AS (hi p0 s Y H _ I h) λv s1 h1=>AS h1 λF s2 h2=>?_
 rintro⟨it,fp,tn,J,H2,e,Z,T,j,f2,M⟩:h2;subst e;refine AS (QD (pos:=pos) (iter:=iter) (E:=X.xe) K ok t Z T j f2 M) λacc s3 U=>AS U λd s4 S=>?_
 refine codeAny_mono S λr s5 R=>?_
 rintro⟨rfl,D,H',xs,rfl,P,W,⟨m,G⟩,f,q⟩:R;show wpAny _ X.A (assign (.Name y py) X.env (.ref D)) _ _ _;refine wpAny_assign_Name (Hs (v:=.ref D) W O k (.inl hl) rfl (λB V n=>?_) (.inr hl));rintro⟨a,w,L⟩:n
 have u:d.locals≠a:=by
  rcases L with e|e
  .rw[e];exact f.2.1
  .exact λz=>f.2.2.2.2.1 _ _ e z.symm
 refine#[m,G.sameBut w u,λh' p=>?_];exact#[_,_,V.turned (t':=B.toks) (it:=d.locals) (λb o t e=>(p.2 b t).trans e) f.1 f.2.1 f.2.2.2.1 f.2.2.2.2.1 f.2.2.2.2.2,q D P]
end
end Nv
namespace Nv
open PySem L2 PyProof.Rows
variable{W:Wd}{B:Addr->Prop}{H H1:Hp}{U β:Env}{Y Yβ:L2.St}
variable{α:Type}
theorem bind_assoc{β γ:Type}(r:Res α)(f:α->Res β)(g:β->Res γ):(r.bind f).bind g=r.bind λa=>(f a).bind g:=by cases r<;>rfl
theorem Kr.block(R:Kr W B H U Y)(fr:List (Option Nat)):Kr W B H (AE fr U) (DA fr Y):=by
 refine#[by unfold DA AE;rw[lM,lM],R.tb,R.FQ,λj c q=>?_];unfold A8 AE at q;rw[List.getElem?_map]at q;unfold DA;rw[List.getElem?_map];cases e:fr[j]? with
 |none=>rw[e]at q;cases q
 |some o=>
   rw[e]at q;cases o with
   |none=>cases q
   |some i=>
     rintro⟨c0,e0,rfl⟩:AU (show(A8 U i).map C.bor=some c from q);rintro⟨v,b,a⟩:R.get i c0 e0;refine#[v,?_,a.borrow λ_ z=>z];show some (((Y[i]?)).join)=_;rw[b];rfl
theorem Kr.Ow{i:Nat}(R:Kr W B H β Yβ)(hi:i < Yβ.length)(e:A5 W H p v):Kr W B H (β.set i (some (.p p))) (Yβ.set i (some v)):=by
 refine#[by rw[length_set,length_set];exact R.len,R.tb,R.FQ,λj c q=>?_];rw[Cq]at q;split at q
 .rename_i a;subst a;split at q
  .cases q;exact#[v,List.getElem?_set_self hi,e]
  .cases q
 .rename_i a;rintro⟨u,d,b⟩:R.get j c q;exact#[u,by rw[List.getElem?_set_ne a];exact d,b]
variable{Y':L2.St}
theorem AL.both{i:Nat}{is:List Nat}{x:Option V}(u:AL (i::is) Yβ Y'):AL is (Yβ.set i x) (Y'.set i x):=⟨by rw[length_set,length_set];exact u.1,λj b=>by
 by_cases a:i=j
 .subst a;rw[List.getElem?_set,List.getElem?_set,u.1,iP rfl,iP rfl]
 .rw[List.getElem?_set_ne a,List.getElem?_set_ne a]
  exact u.2 j λz=>(mem_cons.mp z).elim (λz=>a z.symm) b⟩
theorem AL.eq(u:AL [] Yβ Y'):Y'=Yβ:=ext_getElem? λj=>u.2 j (by simp)
theorem Ms{Q:L2.St->Hp->Prop}:∀{is:List Nat} {ps:List P} {vs:List V} {β:Env} {Yβ Y':L2.St},Cw W H ps vs->is.length=ps.length->Kr W B H β Yβ->AL is Yβ Y'->(∀i∈is,i < Yβ.length)->
 (∀a,Kr W B H ((is.zip ps).foldl (λr q=>r.set q.1 (some (.p q.2))) β) a->AL is Y' a->Q a H)->XQ is vs Y' H Q
 |[],_,_,β,Yβ,Y',.nil,hl,R,u,hi,q=>#[rfl,q Y' (by rw[u.eq];exact R) (AL.refl _ _)]
 |[],_,_,_,_,_,.cons _ _,hl,_,_,_,_=>by cases hl
 |i::is,_,_,_,_,_,.nil,hl,_,_,_,_=>by cases hl
 |i ::is,_,_,β,Yβ,Y',.cons h1 h2,hl,R,u,hi,q=>⟨_,_,rfl,Ms h2 (Nat.succ.inj hl) (R.Ow (hi i mS) h1) u.both (λj b=>by rw[length_set];exact hi j (mem_cons_of_mem _ b)) λa r w=>
     q a r ((AL.set mS).trans (w.mono λj b=>mem_cons_of_mem _ b))⟩
theorem X6{Q:L2.St->Hp->Prop}{g:Tg}{c:Env}(e:Cs g p β=some c)(f:A5 W H p v)(R:Kr W B H β Yβ)(u:AL g.slots Yβ Y')(hi:∀i∈g.slots,i < Yβ.length)(q:∀b,Kr W B H c b->AL g.slots Yβ b->Q b H):gT W g v Y' H Q:=by
 cases g with
 |nm i=>
   cases e;refine q _ ?_ (u.trans (AL.set mS));rw[(AL.both (is:=[]) u).eq];exact R.Ow (hi i mS) f
 |tup is=>
   rintro⟨ps,e1,e⟩:Ab e;rintro⟨hl,rfl⟩:A3 e;cases P.Bs e1;rintro⟨a,vs,rfl,s1,d⟩:A9.mp f;exact#[a,vs,rfl,s1,by rw[<-Paired.length d,<-hl],Ms d hl R u hi λb r w=>q b r (u.trans w)]
theorem Vf{k:Sq}{g:Tg}{fr:List (Option Nat)}{F:Env->Res C}{cond:Env->Res Bool}{elt:Env->Res C}{Q:VK}{wi:TI}(hw:Src W k F wi)(hi:∀i∈g.slots,i < fr.length)
 (h:tG W (rV W) (λU=>(F U).bind λc=>(Res.of (k c)).bind λxs=>if xs.length<=big then(C7 g cond elt (AE fr U) xs).bind λys=>.ok (.lst true ys)else .stuck) Y H Q):
 Im wi (gT W g) (tG W rB cond) (XD (tG W (rV W) elt)) fr Y H Q:=by
 rintro⟨U,B,R,t⟩:h;cases L:F U with
 |stuck=>simp only[L]at t;exact t.elim
 |ok c=>
 simp only[L,Res.bind]at t;rintro⟨xs,ek,h0⟩:D3.BP (o:=k c) t;clear t;split at h0
 case isFalse=>exact h0.elim
 rename_i P;refine hw R L ek λH1 gc J e1 t1 st G=>?_
 have h1:=h0.later Au e1;have R1:=(R.ext e1 t1).block fr;have hl:(DA fr Y).length=fr.length:=lM ..
 refine⟨λi acc m Y' H'=>m=xs.length - i/\i<=xs.length/\AL g.slots (DA fr Y) Y'/\Ext H1 H'/\Bx W H'/\∃ys,Cw W H' ys acc/\acc.length<=i/\D3 W (rV W) B H1 ((C7 g cond elt (AE fr U) (xs.drop i)).bind λzs=>.ok (.lst true (ys++zs))) Q,
  #[xs.length,rfl,Nat.zero_le _,AL.refl _ _,Ext.refl _,t1,[],.nil,Nat.le_refl _,h1],?_⟩
 rintro i acc m Y' H' ⟨rfl,hix,hU,A,M,ys,E,hla,f⟩
 have n:gc H':=st.1 H' A
 by_cases hlt:i < xs.length
 .rw [drop_eq_getElem_cons hlt]at f;have hbl:=Bw;refine .inr #[G.go i H' n hlt,by lia,λx H2 hy=>?_];rintro⟨s2,p,ep,rp⟩:G.LS i H' x H2 n hlt hy;have ep:xs[i]=p:=by rw[List.getElem?_eq_getElem hlt]at ep;exact Option.some.inj ep
  rw[ep]at f;replace f:D3 W (rV W) B H1 (((Res.of (Cs g p (AE fr U))).bind λl=>(cond l).bind λb=>if b then(elt l).bind λc=>(Res.of c.CK).bind λy=>(C7 g cond elt (AE fr U) (xs.drop (i+1))).bind λys=>.ok (y::ys)else C7 g cond elt (AE fr U) (xs.drop (i+1))).bind λzs=>.ok (.lst true (ys++zs))) Q:=f;rw[bind_assoc]at f;rintro⟨l,K,f⟩:f.BP;rw[bind_assoc]at f;have e2:=A.trans (.of s2);have t2:=M.same s2;refine X6 K rp (R1.ext e2 t2) hU (λj hj=>by rw[hl];exact hi j hj) λY3 Z u3=>#[l,B,Z,f.Dn e2 λb b' H3 D t3 rb v=>?_]
  cases rb;have q:=e2.trans D;cases b with
  |true=>
    rw[iP rfl]at v ⊢;rw[bind_assoc]at v;refine#[l,B,Z.ext D t3,v.Dn q λd u H4 X N r4 I=>?_];rw[bind_assoc]at I;rintro⟨y,ey,S⟩:I.BP;clear I;rw[bind_assoc]at S
    have fin:∀s,Ext H3 s->Bx W s->A5 W s y u->∃O,O < xs.length - i/\O=xs.length - (i + 1)/\i + 1<=xs.length/\AL g.slots (DA fr Y) Y3/\Ext H1 s/\Bx W s/\∃ys,Cw W s ys (acc++[u])/\(acc++[u]).length<=i + 1/\D3 W (rV W) B H1 ((C7 g cond elt (AE fr U) (xs.drop (i + 1))).bind λzs=>.ok (.lst true (ys++zs))) Q:=λs V t5 r5=>by
     refine#[xs.length-(i+1),by lia,rfl,hlt,u3,q.trans V,t5,ys++[y],Pd.append (E.mono ((((Ext.of s2).trans D).trans V)).keep) (.cons r5 .nil),by rw[lA,lS];lia,?_];simp only[append_assoc,List.singleton_append];exact S
    rcases UL ey r4 with r|⟨a,zs,rfl,T,hn,hr⟩
    .exact .inl (fin H4 X N r)
    .exact .inr #[a,zs,rfl,T,λo=>fin _ (IX (u:=.lst zs) X hn) (Ij N T (λ_ z=>nomatch z) (λ_ _ z=>nomatch z) rfl) (hr o)]
  |false=>
    rw[iN Bool.false_ne_true]at v ⊢;exact#[xs.length-(i+1),by lia,rfl,hlt,u3,q,t3,ys,E.mono (((Ext.of s2).trans D)).keep,by lia,v]
 .have e:i=xs.length:=by lia
  subst e;rw[List.drop_length]at f;refine .inl #[G.stop H' n,λp w=>?_];replace f:D3 W (rV W) B H1 (.ok (.lst true (ys++[]))) Q:=f;rw[append_nil]at f;exact f _ _ (A.trans (.of (Ar w))) (M.same (Ar w)) #[p,acc,rfl,#[A6,A.none w],E.mono (AH.of (Ar w))]
def QS(W:Wd)(Hin:Hp)(A0:Addr->Prop)(H':Hp):Prop:=Bx W H'/\(∀b x,Hin b=some x->¬A0 b->CB x=false->H' b=some x)/\(∀b x,Hin b=some x->∃y,H' b=some y)/\AH Hin H'
def dE(W:Wd)(H:Hp)(A0:Addr->Prop)(r:Res C)(Q:C->V->Hp->Prop):Prop:=match r with
 |.stuck=>False
 |.ok c=>∀v H',DC W H A0 c v H'->Q c v H'
def aO(W:Wd)(cf:List C->Res C)(vs:List V)(H:Hp)(Q:C->V->Hp->Prop):Prop:=∃(cs:List C) (O:Addr->Nat) (A0:Addr->Prop),BB W H (λj a=>A0 a/\O a=j) (λa=>¬A0 a/\∃x,H a=some x) 0 cs vs/\Bx W H/\dE W H A0 (cf cs) Q
def QU(W:Wd)(cf:List C->Res C):Sp:=λvs H Q _=>aO W cf vs H λ_ v H'=>Q v H'
def Vr(W:Wd)(cf:List C->Res C):Sp:=λvs H Q _=>aO W cf vs H λ_ v H'=>vs.head? =some v->Q .AG H'
def ai(W:Wd)(mu:Bool)(cf:List C->Res C):Sp:=if mu=true then Vr W cf else QU W cf
def NE:XK:=λ_ _ _=>False
def MO:XA:=λ_ _ _ _ _ _=>False
theorem BB.length{own:Nat->Addr->Prop}{bor:Addr->Prop}:∀{j:Nat} {cs:List C} {vs:List V},BB W H own bor j cs vs->vs.length=cs.length
 |_,[],vs,h=>by rw[show vs=[]from h];rfl
 |_,_::_,_,⟨v,r,e,_,h⟩=>by rw[e,lC,lC,BB.length h]
theorem BB.get{own:Nat->Addr->Prop}{bor:Addr->Prop}:∀{i j:Nat} {cs:List C} {vs:List V} {c:C},BB W H own bor j cs vs->cs[i]? =some c->∃v,vs[i]? =some v/\AF W H (own (j + i)) bor c v
 |0,j,_::_,_,c,⟨v,r,e,h,_⟩,q=>by cases q;rw[e];exact#[v,rfl,h]
 | i + 1,j,_::_,_,c,⟨v,r,e,_,h⟩,q=>by
   rintro⟨u,h1,h2⟩:BB.get (i:=i) h q;rw[e];exact#[u,h1,by rw[show j+(i+1)=j+1+i by lia];exact h2]
 |i,j,[],_,c,_,q=>by cases q
theorem BC{x:HO}(q:H a=some x):¬H a=none:=by rw[q];exact λz=>nomatch z
variable{bor':Addr->Prop}{H':Hp}
theorem BB.ZA{own own':Nat->Addr->Prop}{bor:Addr->Prop}(e:Ext H H')(b:∀j a x,own j a->H a=some x->own' j a)(c:∀a,bor a->bor' a):∀{j:Nat} {cs:List C} {vs:List V},BB W H own bor j cs vs->BB W H' own' bor' j cs vs
 |_,[],_,h=>h
 |j,_::_,_,⟨v,r,q,h1,h2⟩=>#[v,r,q,h1.mono e.keep (λa x p q n=>#[e.but a x q n,b j a x p q]) λa x p q n=>#[e.but a x q n,c a p],BB.ZA e b c h2]
variable{A0:Addr->Prop}
theorem QS.ext{H1:Hp}(e1:Ext H H1)(a:∀b x,H b=some x->¬A0 b)(f:QS W H1 A0 H'):Ext H H':=#[λb x q n=>f.2.1 b x (e1.but b x q n) (a b x q) n,λb x q=>let⟨y,q⟩:=e1.there b x q;f.2.2.1 b y q]
variable{Fs:Env->Res (List C)}
theorem O8{cf:List C->Res C}{Q:VK}(h:tG W (rV W) (λU=>(Fs U).bind cf) Y H Q):tG W (NP W) Fs Y H λvs H1=>QU W cf vs H1 Q NE:=by
 rintro⟨U,B,R,e⟩:h;refine#[U,B,R,e.Dn (Ext.refl H) λcs vs H1 e1 t1 ⟨O,r⟩ h1=>#[cs,O,λa=>H a=none,r.imp (Ext.refl _) (λ_ _ z=>z) (λa z=>?_),t1,?_]]
 .obtain⟨x,q⟩:=R.FQ a z;exact#[BC q,e1.there a x q]
 .cases d:cf cs with
  |stuck=>rw[d]at h1;exact h1
  |ok c=>
    rw[d]at h1;exact λv H' r=>h1 v H' (QS.ext e1 (λb x q=>BC q) r.2) r.2.1 (r.1.ext (Ext.refl _) (λa z=>z.elim e1.none id) λ_ z=>z.elim)
theorem Ve{cf:List C->Res C}{Q:VK}(h:tG W (rV W) (λU=>(Fs U).bind λcs=>(cf (.obj true []::cs)).bind λc=>if c.Jd then .ok c else .stuck) Y H Q):Ue W.lc (Vr W cf) [] NE (tG W (NP W) Fs) Y H Q:=by
 rintro⟨U,B,R,k⟩:h;refine#[U,B,R,k.Dn (Ext.refl H) λcs vs H1 e1 t1 ⟨O,r⟩ h1 x dx e hd f=>?_];have s1:Dd H1 (upd H1 dx (.own x)):=Ar hd;have d:upd H1 dx (.own x) x=none:=by rw[A4 f.symm];exact e
 have s2:=s1.trans (Ar (o:=.ins W.lc dx []) d);have e2:=e1.trans (Ext.of s2);rw[append_nil];refine#[.obj true []::cs,λa=>if a=x then 0 else O a+1,λa=>H a=none,#[.ref x,vs,rfl,#[x,dx,[],rfl,by rw[List.zip_nil_right];exact A6,#[e1.none e,iP rfl],.nil,.nil],BB.shift (r.ZA (Ext.of s2) (λj a y z q=>#[z.1,(iN (AI q e)).trans (by rw[z.2])]) λa z=>let⟨y,q⟩:=R.FQ a z;#[BC q,e2.there a y q])],t1.same s2,?_];cases g:cf (.obj true []::cs)with
 |stuck=>rw[g]at h1;exact h1
 |ok c=>
   rw[g]at h1;replace h1:D3 W (rV W) B H (if c.Jd=true then .ok c else .stuck) Q:=h1;split at h1
   case isFalse=>exact h1.elim
   intro v H' r i;cases i;exact#[rfl,h1 _ H' (QS.ext e2 (λb x q=>BC q) r.2) r.2.1 (r.1.ext (Ext.refl _) (λa z=>z.elim e2.none id) λ_ z=>z.elim)]
variable{cs:List C}
theorem Q8{n i:Nat}{c:C}(h:A8 (cs.map some++List.replicate n none) i=some c):cs[i]? =some c:=by
 unfold A8 at h;rw[List.getElem?_append]at h;split at h
 .rename_i hi;rw[lM]at hi;rw[List.getElem?_map]at h;cases e:cs[i]? with
  |none=>rw[e]at h;cases h
  |some d=>rw[e]at h;cases h;rfl
 .rw[List.getElem?_replicate]at h;split at h<;>cases h
variable{vs:List V}{O:Addr->Nat}
theorem Aq.start{n:Nat}(h:BB W H (λj a=>A0 a/\O a=j) (λa=>¬A0 a/\∃x,H a=some x) 0 cs vs)(t:Bx W H):
 Aq W H A0 (λ_ a=>¬A0 a/\∃x,H a=some x) H (cs.map some++List.replicate n none) (vs.map some++List.replicate n none):=by
 refine#[by simp[h.length],t,#[O,λi c q=>?_],λ_ a z=>#[z.2,z.1],λb x q _ _=>q,λb x q=>#[x,q],AH.refl _];rintro⟨v,h1,h2⟩:h.get (Q8 q);refine#[v,?_,h2.ext (Ext.refl _) (λa z=>#[by rw[z.2];exact Nat.zero_add i,.inr z.1]) λ_ z=>z];have hl:i < vs.length:=(List.getElem?_eq_some_iff.mp h1).1;rw[List.getElem?_append_left (by rw[lM];exact hl),List.getElem?_map,h1];rfl
theorem ME{cf:CF}{fi:LN}{N:List Str}{E:XK}{Q:VK}(hnl:fi.nl=N.length)(l:vs.length=fi.np)
 (d:ai W fi.mu (Cu cf As fi) vs H Q E):tS W (CD fi.body) (execs cf As fi.body) {nx:=λ_ H'=>Q .AG H',rt:=Q} (L2.start N vs) H:=by
 have i:L2.start N vs=vs.map some++List.replicate (fi.nl-fi.np) none:=by unfold L2.start;rw[hnl,l]
 rw[i];cases hm:fi.mu with
 |false=>
   rw[hm]at d;rintro⟨cs,O,A0,g,h,b⟩:d;have hlen:=g.length;refine#[H,A0,_,_,Aq.start g h,?_];unfold Cu at b;rw[iP (by lia),hm]at b;cases e:execs cf As fi.body (cs.map some++List.replicate (fi.nl-fi.np) none)with
   |stuck=>rw[e]at b;exact b
   |nx U'=>rw[e]at b;exact λY' H' s u=>b .AG H' #[(Dp (W:=W) (H:=H')).mpr rfl,s.tb,s.F5,s.FQ,s.kp]
   |ret c=>rw[e]at b;exact λv H' r=>b v H' r
 |true=>
   rw[hm]at d;rintro⟨cs,O,A0,g,h,b⟩:d;have hlen:=g.length;refine#[H,A0,_,_,Aq.start g h,?_];unfold Cu at b;rw[iP (by lia),hm,iP rfl]at b;split at b
   .exact b.elim
   rename_i h0;cases e:execs cf As fi.body (cs.map some++List.replicate (fi.nl-fi.np) none)with
   |nx U'=>
     rw[e]at b;intro Y' H' s u;rintro⟨o,n⟩:s.env;cases j:A8 U' 0 with
     |none=>simp only[j]at b;exact b.elim
     |some c=>
       simp only[j,C.got]at b;split at b
       case isFalse=>exact b.elim
       rename_i m;rintro⟨v,f,k⟩:n 0 c j;refine b v H' #[D6 m k λa x z _=>z.2,s.tb,s.F5,s.FQ,s.kp] ?_;rw[u.2 0 (by simpa using h0)]at f;cases vs with
       |nil=>
         rw[map_nil,List.nil_append,List.getElem?_replicate]at f;split at f<;>cases f
       |cons w vs=>cases f;rfl
   |_=>rw[e]at b;exact b.elim
def QR(P:Program)(w:World)(K:Frag)(mg:Str->Option Value)(base:Heap)(sp:Sp)(k:Nat)(a:Addr):Prop:=(∃o fd,base.get? a=some o/\o.data= .func fd)/\
 ∀(A:Around) (outer:List PySem.Env) (s:Shared) (H:Hp) (us:List Value) (vs:List V) (Q:VK) (E:XK),BU k A->FW P w K mg base A outer s H->Vals vs us->sp vs H Q E->codeAny (model P w) A (.call (.ref a) #[us,[]]) (L2.CR MO outer P w H s Q E) s
abbrev cF(P:Program)(w:World)(K:Frag)(mg:Str->Option Value)(base:Heap)(W:Wd)(cf:CF)(k n:Nat)(caps:List Nv.P)(a:Addr):Prop:=QR P w K mg base (QU W (λcs=>cf n (cs++caps.map .p))) k a
abbrev Fv(X:Cx)(W:Wd)(cf:CF)(k n:Nat)(caps:List Nv.P)(a:Addr):Prop:=cF X.prog X.w X.K X.mg X.base W cf k n caps a
abbrev Fm(X:Cx)(W:Wd)(cf:CF)(k n:Nat)(a:Addr):Prop:=QR X.prog X.w X.K X.mg X.base (Vr W (cf n)) k a
section
variable{X:Cx}{cf:CF}{k n:Nat}{caps:List Nv.P}{a:Addr}{p0:Oa}{s:Shared}{Q:VK}{sp:Sp}
theorem OA(F:QR X.prog X.w X.K X.mg X.base sp k a)(b:BU k X.A){us:List Value}{vs:List V}(I:∅)(r:Vals vs us)(h:sp vs H Q NE):(X|||(call (.ref a) us)) (EP X p0 Y Q) X.xe s:=by
 refine wpAny_call (codeAny_mono (F.2 X.A X.stack s H us vs Q _ b I.ZL r h) λr s' hq=>?_);cases r with
 |error e=>exact False.elim hq
 |ok fl=>
   cases fl with
   |ret u=>exact I.after hq
   |next=>exact False.elim hq
   |brk=>exact False.elim hq
   |cont=>exact False.elim hq
variable{ts:List T}{pos:Pos}
theorem Gk(F:QR X.prog X.w X.K X.mg X.base sp k a)(d:BU k X.A){es:List Expr}{fst:List Value}{fvs:List V}(hf:Vals fvs fst)(hs:E7 X W cf es ts)(I:∅)(h:tG W (NP W) (BK cf ts) Y H λvs H1=>sp (fvs++vs) H1 Q NE):
 (X|||(callWith pos (.ref a) fst (backTo pos (starEach es X.env)) [])) (EP X p0 Y Q) X.xe s:=by
 rintro⟨o,fd,c,b⟩:F.1;refine Calls.callWith_function (o:=o) (fd:=fd) ?_;have h0:=OZ hs pos p0 s Y H _ I h;cases hs with
 |nil=>exact PySem.evalArgs_none #[#[I.bk _ _ c,b],OA F d I (hf.append .nil) (M0 h)]
 |cons he hs=>
   rw[A2 he.st]at h0 ⊢;exact Calls.evalArgs_plain (AS h0 λus s1 ⟨vs,H1,e,r,q⟩=>#[#[e.bk _ _ c,b],OA F d e (hf.append r) q])
theorem Oq(hK:W.K=X.K)(F:Fv X W cf k n [] a)(c:BU k X.A){es:List Expr}(d:Gl X x)(hm:X.mg x=some (.ref a))(b:ng x)(hs:E7 X W cf es ts):AR X W cf (.Call (.Name x p) es [] pos) (.call n ts):=by
 refine AR.of hK (λp0 s Y H Q I z=>?_) rfl;refine wpAny_Call_Name_kw (G3 I d hm (Gk F c .nil hs I (O8 ?_)) b);simp only[map_nil,append_nil];exact z
theorem RE(hK:W.K=X.K){i:Nat}(h:∀n caps a,W.fa n caps a->Fv X W cf k n caps a)(f:BU k X.A){es:List Expr}(e:PE X (.Name x p) (ES i))(hs:E7 X W cf es ts):AR X W cf (.Call (.Name x p) es [] pos) (.app i ts):=by
 refine AR.of hK (λp0 s Y H Q I z=>?_) rfl;rintro⟨U,B,R,b⟩:z;rintro⟨q,eq,b⟩:b.BP;rintro⟨c,j,eq⟩:Ab eq
 have g:c= .p (.fn q.1 q.2):=by
  cases c with
  |p y=>cases y<;>cases eq;rfl
  |_=>cases eq
 subst g;rintro⟨v,e1,e2⟩:R.get i _ j;rintro⟨a,l,rfl⟩:FZ.mp (GY e2);refine wpAny_Call_Name_kw (AS (e p0 s Y H (λv H1=>v= .ref a/\H1=H) I #[_,e1,rfl,rfl]) λv s1 ⟨y,H1,r,d,o,m⟩=>?_);subst o;subst m;cases d;exact Gk (h _ _ _ l) f .nil hs r (O8 #[U,B,R,b])
theorem UM{P:Program}{w:World}{K:Frag}{mg:Str->Option Value}{base:Heap}{fd:FuncData}{ps:List Str}(c:∃o fd,base.get? f=some o/\o.data= .func fd)(F:GX P w K mg base MO k f fd ps sp)(g:Binds K fd ps []):QR P w K mg base sp k f:=
 ⟨c,λA outer s H us vs Q E d e0 r h=>by
  have hl:us.length=ps.length:=by rw[<-r.length];exact F.len _ _ _ _ h
  have By:K.In s.heap:=e0.mod.By.keeps λb o e=>(e0.bs b o e).1
  exact F.run A outer s H #[us,[]] us vs Q E d e0 (by simpa using g s us By (by simpa using hl)) r h⟩
end
variable{X:Cx}{p0:Oa}{s:Shared}
def UR:HO:=.ext λ_=>True
def grown(H:Hp)(P c:Addr)(oc:Obj)(ps:Array Value):Hp:=upd (upd H c (.CK oc UR)) P (.Jp ps)
theorem Q6{P c:Addr}{oc:Obj}{ps more:Array Value}{h':Heap}{tk:Nat}(I:∅)(p:H P=some (.Jp ps))(t:s.heap.objs.size<=c)
 (l:∀b o,b≠P->s.heap.get? b=some o->h'.get? b=some o)(i:h'.get? c=some oc)(k:h'.get? P=some {cls:=.none,data:=.fields (ps++more)}):
 Inv X p0 Y (grown H P c oc (ps++more)) {s with heap:=h',toks:=tk}/\AH H (grown H P c oc (ps++more))/\Ext H (grown H P c oc (ps++more)):=by
 have r:H c=none:=I.Aj.fresh t;have h:∀b x,H b=some x->CB x=false->b≠P:=λb x e n z=>by rw[z,p]at e;cases e;cases n
 have f:∀b x,H b=some x->b≠c:=λb x e z=>by rw[z,r]at e;cases e
 have w:P≠c:=f P _ p
 have same:∀b x,H b=some x->CB x=false->grown H P c oc (ps++more) b=some x:=λb x e n=>by
  unfold grown;rw[A4 (h b x e n),A4 (f b x e)];exact e
 have lt:∀b o,s.heap.get? b=some o->b≠c:=λb o e z=>absurd (Nat.lt_of_lt_of_le (hZ e) (z▸t)) (Nat.lt_irrefl _)
 have g:∀b,H b=none->b≠P:=λb n z=>by rw[z,p]at n;cases n
 have there:∀b x,H b=some x->∃v,grown H P c oc (ps++more) b=some v:=λb x e=>by
  by_cases d:b=P
  .exact#[_,by rw[d];exact A6]
  .exact#[x,by unfold grown;rw[A4 d,A4 (f b x e)];exact e]
 have kp:AH H (grown H P c oc (ps++more)):=λa=>#[λxs e=>same a _ e rfl,λo u e=>same a _ e rfl]
 refine#[I.un #[λb o e n d _=>l b o (g b n) e,λb o e n d _=>#[o.slots,l b o (g b n) e],λb o e n _=>?_,λb o e _=>?_,λb xs e=>same b _ e rfl,λb o u e=>same b _ e rfl,λb qs e=>?_] (λa o e=>?_),kp,#[same,there]]
 .unfold grown;rw[A4 (g b n),A4 (lt b o e)];exact n
 .by_cases d:b=P
  .exact#[_,by rw[d];exact k]
  .exact#[o,l b o d e]
 .by_cases d:b=P
  .rw[d,p]at e;cases e;exact#[more,by rw[d];exact A6]
  .exact#[[].toArray,by unfold grown;rw[A4 d,A4 (f b _ e),e];simp]
 .by_cases m:a=P
  .subst m;have e:grown H a c oc (ps++more) a=some o:=e;unfold grown at e;rw[A6]at e;cases e;exact k
  .by_cases j:a=c
   .subst j;unfold grown at e;rw[A4 m,A6]at e;cases e;exact#[i,trivial,#[_,i],λ_ _ _ _=>trivial]
   .have e0:H a=some o:=by
     unfold grown at e;rw[A4 m,A4 j]at e;exact e
    refine(I.Aj a o e0).H9 (λb u d q=>l b u ?_ q) (λb q=>same b _ q rfl) λb xs q=>same b _ q rfl
    rcases d with rfl|d
    .exact m
    .exact h b _ d rfl
theorem HA{β:Type}:∀{l:List (α×β)} {p q:α×β},(l.map (·.1)).Nodup->p∈l->q∈l->p.1=q.1->p=q
 |[],_,_,_,h,_,_=>by cases h
 | x ::l,p,q,c,d,hq,e=>by
   rw[map_cons,nodup_cons]at c;rcases mem_cons.mp d with b|b
   .rcases mem_cons.mp hq with a|a
    .rw[b,a]
    .exact absurd (by rw[<-b,e];exact mem_map_of_mem a) c.1
   .rcases mem_cons.mp hq with a|a
    .exact absurd (by rw[<-a,<-e];exact mem_map_of_mem b) c.1
    .exact HA c.2 b a e
variable{sc:Scope}{lp:Pos}
theorem PC{as:Arguments}{P:Addr}{clos:List (Str×Addr)}{Q:Va}(I:∅)(tb:Bx W H)(G:(W.tabs.map (·.1)).Nodup)(hq:(P,lp,X.env.qual++"<lambda>")∈W.tabs)
 (w:defaultsOf as X.env=([],[]))(x:closureFor sc X.env=pure clos)(j:X.env.code= .ref c)(C:CodeHd X.base c P)(hB:X.base.BuiltinsAt X.mg P)(J:mainGlobals≠P)
 (h:∀(c0 cc:Addr) (f:Value) (s':Shared) (H':Hp),Inv X p0 Y H' s'->AH H H'->Ext H H'->Bx W H'->LO H' (cc,X.env.qual++"<lambda>")->
   s'.heap.get? c0=some {cls:=.type "function",data:=.func (kla_fn "<lambda>" (X.env.qual++"<lambda>") as b sc clos ((X.mg "__name__").getD .none) (.ref cc) f)}->s.heap.objs.size<=c0->H' c0=none->
   (∀a o,s.heap.get? a=some o->H a=none->s'.heap.get? a=some o)->Q (.ref c0) s'):(X|||(eval (.Lambda as b sc lp) X.env)) Q X.xe s:=by
 rintro⟨ps,r,D,m⟩:tb.1 _ hq;have y:s.heap.get? P=some (tabObj ps):=I.Aj P _ r;have M:s.heap.Ns mainGlobals X.mg:=I.mod.glob.keeps I.bk;have N:s.heap.BuiltinsAt X.mg P:=let⟨bm,o,q1,Z,V,T,S,R⟩:=hB;#[bm,o,q1,Z,V,T,I.bk _ _ S,R];refine PySem.W.kla_eval w ?_;cases hf:codeAmong lp ps.toList with
 |some A=>
   rintro⟨cc,rfl,K⟩:m A hf;refine PySem.W.kla_makeFunctionHit x I.ok.glob M j (C.keeps I.bk) y D hf N λf h' tk hk hsz=>?_
   have i:∀a o,s.heap.get? a=some o->(h'.push {cls:=.type "function",data:=.func (kla_fn "<lambda>" (X.env.qual++"<lambda>") as b sc clos ((X.mg "__name__").getD .none) (.ref cc) f)}).get? a=some o:=λa o e=>gP (hk a o e)
   exact h _ cc f _ H (I.kept i) (λa=>#[λ_ e=>e,λ_ _ e=>e]) (Ext.refl H) tb K (Heap.get?_push_size _ rfl) hsz (I.Aj.fresh hsz) λa o e _=>i a o e
 |none=>
   refine PySem.W.kla_makeFunction x I.ok.glob M j (C.keeps I.bk) y D hf J N λc' f h' tk hx l hlt u E=>?_
   rintro⟨c2,oc,vs,t,e2,F,hd,hv⟩:u;cases e2;have i:∀a o,a≠P->s.heap.get? a=some o->(h'.push (PySem.W.kla_obj "<lambda>" (X.env.qual++"<lambda>") as b sc clos ((X.mg "__name__").getD .none) c' f)).get? a=some o:=λa o n e=>gP (hx a o n e)
   rintro⟨g1,g2,g3⟩:Q6 (c:=c') (oc:=oc) (tk:=tk) I r l i (gP F) (gP E);have L:P≠c':=λz=>by rw[z,I.Aj.fresh l]at r;cases r
   have g:s.heap.objs.size<=h'.objs.size:=Nat.le_trans l (Nat.le_of_lt hlt);have p:LO (grown H P c' oc (ps++ [rawInt lp.line,rawInt lp.col,Value.ref c'].toArray)) (c',X.env.qual++"<lambda>"):=#[oc,UR,vs,t,by unfold grown;rw[A4 L.symm];exact A6,hd,hv];refine h _ c' f _ _ g1 g2 g3 #[λq k=>?_,λq k=>(tb.2 q k).keep g2] p (Heap.get?_push_size _ rfl) g ?_ λa o e n=>i a o (λz=>by rw[z,r]at n;cases n) e
   .by_cases v:q.1=P
    .have eq:q=(P,lp,X.env.qual++"<lambda>"):=HA G k hq v;subst eq;have el:(ps++ [rawInt lp.line,rawInt lp.col,Value.ref c'].toArray).toList=ps.toList++[rawInt lp.line,rawInt lp.col,Value.ref c']:=by simp
     refine#[_,A6,by rw[el];exact TriplesOk_snoc _ _ _ _ D,λA e=>?_];rw[el]at e;have e:codeAmong lp (ps.toList++[rawInt lp.line,rawInt lp.col,Value.ref c'])=some A:=e;rw[codeAmong_snoc _ D hf]at e;cases e;exact#[c',rfl,p]
    .obtain⟨qs,k1,k2,k3⟩:=tb.1 q k;refine#[qs,?_,k2,λA e=>?_]
     .unfold grown;rw[A4 v,A4 λz=>by rw[z,I.Aj.fresh l]at k1;cases k1];exact k1
     .obtain⟨d,j1,j2⟩:=k3 A e;exact#[d,j1,j2.keep g2]
   .unfold grown;rw[A4 λz=>?_,A4 (Nat.ne_of_gt hlt)]
    .exact I.Aj.fresh g
    .have:=I.Aj.lt r;rw[<-z]at this;exact absurd (Nat.lt_of_lt_of_le this g) (Nat.lt_irrefl _)
def baseOf(B h:Heap)(L:List Addr):Heap:=hideAll h ((List.range h.objs.size).filter λb=>(B.get? b).isNone && !L.contains b)
variable{h:Heap}
theorem GV{B:Heap}(k:∀b o,B.get? b=some o->h.get? b=some o){b:Addr}{o:Obj}(e:B.get? b=some o):(baseOf B h L).get? b=some o:=
 hideAll_get _ (k b o e) λhm=>by
  have:=(mem_filter.mp hm).2;rw[e]at this;simp at this
theorem Fe{B:Heap}{L:List Addr}{b:Addr}{o:Obj}(a:b∈L)(e:h.get? b=some o):(baseOf B h L).get? b=some o:=
 hideAll_get _ e λhm=>by
  have:=(mem_filter.mp hm).2;simp[a]at this
theorem I8{B:Heap}{o:Obj}(e:(baseOf B h L).get? b=some o):h.get? b=some o/\((∃o',B.get? b=some o')\/b∈L):=by
 have c:h.get? b=some o:=of_hideAll _ e;refine#[c,?_]
 by_cases a:b∈L
 .exact .inr a
 .cases q:B.get? b with
  |some o'=>exact .inl #[o',rfl]
  |none=>
    have hm:b∈(List.range h.objs.size).filter λb=>(B.get? b).isNone && !L.contains b:=mem_filter.mpr #[mem_range.mpr (hZ c),by simp[q,a]]
    have z:(baseOf B h L).get? b=none:=hideAll_none _ hm;rw[z]at e;cases e
theorem Fy{B c:Heap}:∀{l:List PySem.Env},h.FunFrames B l->(∀b∈Lp l,B.get? b=none->c.get? b=none)->h.FunFrames c l
 |[],_,_=>trivial
 |env::l,⟨g,⟨L,o,hf,f,e,hd⟩,d⟩,k=>⟨g,#[L,o,hf,k L (by unfold Lp;rw[filterMap_cons,hf];exact mS) f,e,hd],Fy d λb a=>k b (by
     unfold Lp at a ⊢;rw[filterMap_cons,hf]
     exact mem_cons_of_mem _ a)⟩
theorem Nz{L:List Addr}(I:∅)(f:∀b∈L,∃o,s.heap.get? b=some o/\H b=none)(g:∀b∈L,b∉Lp X.stack):FW X.prog X.w X.K X.mg (baseOf X.base s.heap L) X.A X.stack s H:=by
 have k:∀b o,X.base.get? b=some o->(baseOf X.base s.heap L).get? b=some o:=λb o e=>GV I.bk e
 have m:=I.mod;refine#[I.ok.frames,#[m.By.keeps k,m.glob.keeps k,let⟨c,h1,h2⟩:=m.blt;#[c,h1.keeps k,h2],m.nolimit.keeps k],λb o e=>?_,Nat.le_of_eq (hideAll_size _ _),Fy I.stack λb d n=>?_,I.Iq,I.Aj,I.bare]
 .obtain⟨e1,e2⟩:=I8 e;rcases e2 with⟨o',e2⟩|e2
  .exact#[e1,(I.bs b o' e2).2]
  .obtain⟨o',i,a⟩:=f b e2;exact#[e1,a]
 .cases q:(baseOf X.base s.heap L).get? b with
  |none=>rfl
  |some o=>
    rcases(I8 q).2 with⟨o',e2⟩|e2
    .rw[n]at e2;cases e2
    .exact absurd d (g b e2)
noncomputable def Ka(P:Program)(w:World)(K:Frag)(mg:Str->Option Value)(base:Heap)(N:List Str)(qual:Str)(scope:Scope)(f:Addr)(cd:Value)(cl:List (Str×Addr))(A:Around)(outer:List PySem.Env)(s:Shared)(H:Hp)(E:XK):Cx where
 prog:=P
 w:=w
 K:=K
 mg:=mg
 base:=base
 A:=A.deeper (envX qual scope s.heap.objs.size f cd cl)
 N:=N
 s₀:=s
 H₀:=H
 env:=envX qual scope s.heap.objs.size f cd cl
 outer:=outer
 stack:=envX qual scope s.heap.objs.size f cd cl::outer
 ex:=[]
 calm:=true
 fn:=λ_=>false
 pn:=[]
 xe:=λe s'=>wpAny (model P w) (A.deeper (envX qual scope s.heap.objs.size f cd cl)) (leaving (envX qual scope s.heap.objs.size f cd cl) e) (λ_ s''=>MO outer H s E e s'') (λe' s''=>MO outer H s E e' s'') s'
structure QO(y:Str)(fr:List Str)(sc:Scope)(cl:List (Str×Addr)):Prop where
 kind:sc.kind= .function
 co:sc.isCoroutine=false
 gen:sc.isGenerator=false
 CI:∀x∈sc.names,x.2≠.cell
 loc:sc.names.lookup y=some .local
 only:∀x,sc.names.lookup x=some .local->x=y
 nd:(y::fr).Nodup
 inj:∀x y c,cl.lookup x=some c->cl.lookup y=some c->x=y
 has:∀x,sc.names.lookup x=some .free->∃c,cl.lookup x=some c
section
variable{P:Program}{w:World}{K:Frag}{mg:Str->Option Value}{base:Heap}
theorem Dv{k:NameKind}:∀{l:List (Str×NameKind)},l.lookup x=some k->∃y∈l,y.2=k
 |[],h=>by simp at h
 | (y,j)::l,h=>by
   rw[lookup_cons]at h;cases a:x == y with
   |true=>rw[a]at h;cases h;exact#[_,mS,rfl]
   |false=>rw[a]at h;rintro⟨z,h1,h2⟩:Dv h;exact#[z,mem_cons_of_mem _ h1,h2]
variable{qual:Str}{sc:Scope}{s:Shared}{H:Hp}{vs:List V}
theorem T1{fr:List Str}{cd:Value}{cl:List (Str×Addr)}{A:Around}{outer:List PySem.Env}{E:XK}{h':Heap}{tk:Nat}(S:QO y fr sc cl)(hd:A.handled=none)(e0:FW P w K mg base A outer s H)
 (a:∀x c,cl.lookup x=some c->∃u,base.IsCell c (some u))(m:vs.length=fr.length)(I:∀(i:Nat) (x:Str) (v:V),fr[i]? =some x->vs[i]? =some v->∃c u,cl.lookup x=some c/\base.IsCell c (some u)/\RelV v u)(t:RelV v0 u0)
 (r:h'.Ns s.heap.objs.size λx=>[(y,u0)].lookup x)(j:∀b o,s.heap.get? b=some o->h'.get? b=some o):
 Inv (Ka P w K mg base (y::fr) qual sc f cd cl A outer s H E) [] ((v0::vs).map some) H {s with heap:=h',toks:=tk}:=by
 have bk:∀b o,base.get? b=some o->h'.get? b=some o:=λb o e=>j b o (e0.bs b o e).1
 have d:∀{c:Addr} {u:Value},base.IsCell c (some u)->h'.IsCell c (some u):=λ{c u} ⟨o,n,hd⟩=>#[o,bk _ _ n,hd]
 have k:∀{c:Addr} {u:Value},base.IsCell c (some u)->H c=none:=λ{c u} ⟨o,n,_⟩=>(e0.bs _ _ n).2
 refine#[#[e0.mod,S.kind,rfl,rfl,Nat.le_refl _,S.inj,λx g=>?_,λx c g=>(by cases g),λ_=>hd,?_,.inr #[rfl,rfl],λb l=>(by cases l),e0.bs,e0.UT,λb o e l=>(by cases l),λb l=>(by cases l),e0.FP,e0.XR],rfl,e0.bare,Un.kept j,#[_,r,λi x v e1 e2 L=>?_],λx c e=>?_,e0.Aj.fresh (Nat.le_refl _),λx c e=>?_,λp J=>(by cases J),e0.Aj.kept j,by simp[Ka,m]]
 .rcases g with g|g
  .obtain⟨y,h1,h2⟩:=Dv (show sc.names.lookup x=some .cell from g);exact absurd h2 (S.CI y h1)
  .exact S.has x g
 .have:=e0.frames
  first|exact congrArg _ (by rfl)|(simp[Ka,Around.deeper,this])
 .have e1:(y::fr)[i]? =some x:=e1;cases i with
  |zero=>
    cases e1;cases e2;exact#[u0,t,.inl #[S.loc,by simp]]
  |succ i=>
    have e1:fr[i]? =some x:=e1;have e2:(vs.map some)[i]? =some (some v):=e2;rw[List.getElem?_map]at e2;rintro⟨M,h1,h2⟩:oM e2;cases h2;rintro⟨c,u,G,F,D⟩:I i x v e1 h1;refine#[u,D,.inr #[?_,c,G,d F]];rcases L with z|z|z
    .exact absurd (mem_of_getElem? e1) (by rw[S.only x z];exact(nodup_cons.mp S.nd).1)
    .obtain⟨y,h1,h2⟩:=Dv z;exact absurd h2 (S.CI y h1)
    .exact .inr z
 .obtain⟨u,q⟩:=a x c e;exact#[some u,d q]
 .obtain⟨u,q⟩:=a x c e;exact k q
theorem SM{k:Nat}{fr:List Str}{as:Arguments}{clos:List (Str×Addr)}{pm g m:Value}{u0:Value}{A:Around}{outer:List PySem.Env}{Q:VK}{E:XK}{t:TE}
 (e0:FW P w K mg base A outer s H)(G:BU (k+1) A)(S:QO y fr sc clos)(T:base.get? c0=some {cls:=.type "function",data:=.func (kla_fn "<lambda>" qual as b sc clos pm g m)})(l:s.heap.CodeRec g qual)
 (d:bindArgs (kla_fn "<lambda>" qual as b sc clos pm g m) #[[u0],[]]=pure [(y,u0)])(a:∀x c,clos.lookup x=some c->∃u,base.IsCell c (some u))(n:vs.length=fr.length)(R:∀(i:Nat) (x:Str) (v:V),fr[i]? =some x->vs[i]? =some v->∃c u,clos.lookup x=some c/\base.IsCell c (some u)/\RelV v u)(M:RelV v0 u0)
 (D:PE (Ka P w K mg base (y::fr) qual sc c0 g clos A outer s H E) b t)(hq:t ((v0::vs).map some) H Q):codeAny (model P w) A (.call (.ref c0) #[[u0],[]]) (L2.CR MO outer P w H s Q E) s:=by
 have lim:s.heap.NoLimit:=e0.mod.nolimit.keeps λb o e=>(e0.bs b o e).1
 refine PySem.W.kla_callFunE G.depth (e0.bs _ _ T).1 rfl S.co S.gen rfl l ?_;rw[d];refine wpAny_pure (wpAny_newFunctionEnv S.CI (λx N=>by rw[mE N];exact S.loc) (λj F p=>?_) S.kind);have L:∀b o,s.heap.get? b=some o->j.get? b=some o:=λb o e=>p.extBut b o (Nat.ne_of_lt (hZ e)) (gP e)
 refine#[lim.keeps L,?_];show codeAny _ _ (.expr b (envX qual sc s.heap.objs.size c0 g clos)) _ _;have I:=T1 (E:=E) (qual:=qual) (f:=c0) (cd:=g) (tk:=s.toks+1) S G.hd e0 a n R M F L;refine PySem.W.kla_codeExpr (wpAny_mono (D [] _ _ H Q I hq) (λv s' ⟨y,H',J,r,q⟩=>?_) λe s' z=>z);exact#[y,H',J.os,J.bare,J.base,J.Aj,r,q]
end
structure TU(W W':Wd):Prop where
 K:W.K=W'.K
 w:W.w=W'.w
 lc:W.lc=W'.lc
 fl:W.fl=W'.fl
 tabs:W.tabs=W'.tabs
 NG:∀q∈W.NG,q∈W'.NG
 fa:∀n c a,W.fa n c a->W'.fa n c a
def EJ(ct:Ct)(LT:Nat->Nat->T->Prop)(W:Wd)(base:Heap)(l:Nat)(caps:List Nv.P)(a:Addr):Prop:=
 ∃ (qual y:Str) (fr:List Str) (as:Arguments) (b:Expr) (sc:Scope) (clos:List (Str×Addr)) (pm ctv:Value) (cc:Addr) (t:T) (is:List Int),
   base.get? a=some {cls:=.type "function",data:=.func (kla_fn "<lambda>" qual as b sc clos pm (.ref cc) ctv)}/\(cc,qual)∈W.NG/\QO y fr sc clos/\Nk as sc=y::fr/\
   (∀u0,bindArgs (kla_fn "<lambda>" qual as b sc clos pm (.ref cc) ctv) #[[u0],[]]=pure [(y,u0)])/\(∀x c,clos.lookup x=some c->∃u,base.IsCell c (some u))/\caps=is.map .int/\is.length=fr.length/\
   (∀(i:Nat) (x:Str) (n:Int),fr[i]? =some x->is[i]? =some n->∃c u,clos.lookup x=some c/\base.IsCell c (some u)/\RelV (.int n) u)/\kE (ct.lam as sc) b=some t/\LT l (y::fr).length t
structure Xy(X:Cx)(W:Wd)(cf:CF)(k:Nat)(ct:Ct)(LT:Nat->Nat->T->Prop)(lp:Pos):Prop where
 code:∃c P,X.env.code= .ref c/\codeHdIn X.K c P=true/\X.base.BuiltinsAt X.mg P/\mainGlobals≠P/\(P,lp,X.env.qual++"<lambda>")∈W.tabs
 nd:(W.tabs.map (·.1)).Nodup
 run:∀(W':Wd) (base':Heap),TU W W'->(∀b o,X.base.get? b=some o->base'.get? b=some o)->(∀n c a,W'.fa n c a->W.fa n c a\/EJ ct LT W' base' n c a)->∀f a,W.fa f [] a->cF X.prog X.w X.K X.mg base' W' cf k f [] a
variable{cf:CF}
variable{H:Hp}
theorem AF.conv{W':Wd}{own bor:Addr->Prop}(hK:W'.K=W.K)(hw:W'.w=W.w)(g:W'.lc=W.lc/\W'.fl=W.fl)(hf:∀i c a,W.fa i c a->W'.fa i c a){c:C}(h:AF W H own bor c v):AF W' H own bor c v:=by
 have f:∀{p:Nv.P} {v:V},A5 W H p v->A5 W' H p v:=λz=>A5.conv hK hf (AH.refl H) z
 have j:∀{a:Addr} {kvs:List (Nv.P×Nv.P)} {es:List DictEntry},DE W H a kvs es->DE W' H a kvs es:=λh2=>#[Paired.EY h2.pr λ_ _ z=>#[by rw[hw];exact z.1,let⟨v,a,b⟩:=z.2.1;#[v,a,f b],let⟨v,a,b⟩:=z.2.2;#[v,a,f b]],h2.nd,h2.ks,h2.len,h2.sm]
 cases c with
 |p x=>exact f h
 |lst o ps=>rintro⟨a,vs,e,h1,h2⟩:h;exact#[a,vs,e,by rw[hK];exact h1,Paired.EY h2 λ_ _ z=>f z]
 |Bl o kvs=>
   rintro⟨a,es,e,h1,h2⟩:h;exact#[a,es,e,by rw[hK];exact h1,j h2]
 |obj o fs=>
   rintro⟨a,dx,vs,e,h1,h2,l,k⟩:h;refine#[a,dx,vs,e,by rw[g.1,g.2];exact h1,h2,Paired.EY l λd v z=>?_,k];cases d with
   |p x=>exact f z
   |d kvs=>rintro⟨b,es,e,g1,g2⟩:z;exact#[b,es,e,by rw[hK];exact g1,j g2]
variable{p0:Oa}{s:Shared}
theorem Tv{Y:L2.St}{i:Nat}{x:Str}(I:∅)(b:X.N[i]? =some x)(hs:Y[i]? =some (some v))(a:X.env.scope.names.lookup x=some .cell\/X.env.scope.names.lookup x=some .free):
 ∃c u,X.env.cells.lookup x=some c/\s.heap.IsCell c (some u)/\RelV v u:=by
 rintro⟨d,_,hl⟩:I.loc;rintro⟨u,r,lk⟩:hl i x v b hs (a.elim (λz=>.inr (.inl z)) λz=>.inr (.inr z));rcases lk with⟨z,_⟩|⟨_,c,h1,h2⟩
 .have z:X.env.scope.names.lookup x=some .local:=z;rcases a with y|y
  .rw[z]at y;cases y
  .rw[z]at y;cases y
 .exact#[c,u,h1,h2,r]
theorem F9{cells:List (Str×Addr)}{c:Addr}:∀(l:List (Str×NameKind)) (cs:List (Str×Addr)),(GU cells l cs).lookup x=some c->(∃y∈l,y.1=x/\y.2= .free)\/cs.lookup x=some c
 |[],cs,e=>.inr e
 | (n, k)::r,cs,e=>by
   unfold GU at e
   by_cases a:(k == NameKind.free)=true
   .rw[iP a]at e;rcases F9 r _ e with⟨y,h1,h2⟩|h
    .exact .inl #[y,mem_cons_of_mem _ h1,h2]
    .rw[lookup_cons]at h;cases b:x == n with
     |true=>exact .inl #[(n,k),mS,(eq_of_beq b).symm,eq_of_beq a]
     |false=>rw[b]at h;exact .inr h
   .rw[iN a]at e;rcases F9 r _ e with⟨y,h1,h2⟩|h
    .exact .inl #[y,mem_cons_of_mem _ h1,h2]
    .exact .inr h
structure UW(X:Cx)(sc:Scope)(as:Arguments)(y:Str)(fr:List Str)(EM:List Nat):Prop where
 kind:sc.kind= .function
 co:sc.isCoroutine=false
 gen:sc.isGenerator=false
 CI:∀z∈sc.names,z.2≠.cell
 own:∀z∈sc.names,z.2= .local->z.1=y
 loc:sc.names.lookup y=some .local
 X7:∀z∈sc.names,z.2= .free->z.1∈fr/\(X.env.scope.names.lookup z.1=some .cell\/X.env.scope.names.lookup z.1=some .free)
 all:∀x∈fr,sc.names.lookup x=some .free
 nd:(y::fr).Nodup
 n:Nk as sc=y::fr
 fy:defaultsOf as X.env=([],[])
 bind:∀b clos pm cc ctv u0,bindArgs (kla_fn "<lambda>" (X.env.qual++"<lambda>") as b sc clos pm cc ctv) #[[u0],[]]=pure [(y,u0)]
 EM:Paired (λx i=>X.N[i]? =some x) fr EM
theorem MD :∀{EM:List Nat} {ps:List Nv.P},NH U EM=some ps->∃is:List Int,ps=is.map .int/\Paired (λi (n:Int)=>A8 U i=some (.p (.int n))) EM is
 |[],_,h=>by cases h;exact#[[],rfl,.nil]
 | i ::EM,ps,h=>by
   rintro⟨n,h1,h⟩:Ab h;rintro⟨qs,h2,rfl⟩:AU h;rintro⟨c,e1,e2⟩:Ab h1;rintro⟨is,rfl,a⟩:MD h2
   have:c= .p (.int n):=by
    cases c with
    |p y=>cases y<;>cases e2;rfl
    |_=>cases e2
   exact#[n::is,rfl,.cons (this▸e1) a]
theorem MZ(hK:W.K=X.K){k:Nat}(hr:BU k X.A){ct:Ct}{LT:Nat->Nat->T->Prop}{f l:Nat}{EM:List Nat}{fr:List Str}{te tb:T}{as:Arguments}{pos:Pos}
 (hg:Gl X x)(hm:X.mg x=some (.ref a))(hdb:ng x)(Z:W.fa f [] a)(h1:AR X W cf e te)(F:Xy X W cf k ct LT lp)(S:UW X sc as y fr EM)(hfn:∀x,X.fn x=true)(ht:kE (ct.lam as sc) b=some tb)(hLT:LT l (y::fr).length tb):
 AR X W cf (.Call (.Name x p) [e,.Lambda as b sc lp] [] pos) (.Ki f te l EM):=by
 refine AR.of hK (λp0 s Y H Q I z=>?_) rfl;rintro⟨U,B,R,hA⟩:z;have hF0:=F.run W X.base #[rfl,rfl,rfl,rfl,rfl,λ_ z=>z,λ_ _ _ z=>z] (λ_ _ z=>z) (λ_ _ _ z=>.inl z) f a Z;rintro⟨o,fd,q1,q2⟩:hF0.1;rintro⟨cc0,Pt,N,hhd,hblt,hgP,hq⟩:F.code;refine wpAny_Call_Name_kw (G3 I hg hm ?_ hdb);refine Calls.callWith_function (o:=o) (fd:=fd) ?_;rw[A2 h1.st,A2 rfl];refine Calls.evalArgs_plain (Calls.spliced_cons (AS (h1.v p0 s Y H (λv H1=>∃c,Ext H H1/\Bx W H1/\rV W B H H1 c v/\D3 W (rV W) B H ((Res.of (NH U EM)).bind λps=>(cf f [c,.p (.fn l ps)]).bind λc=>(Res.of c.EN).bind λb=>.ok (.p (.bl b))) Q) I #[U,B,R,hA.Dn (Ext.refl H) λc v H1 e1 t1 r1 h1=>#[c,e1,t1,r1,h1]]) λu s1 ⟨v,H1,I1,r1,c,e1,t1,rc,m⟩=>?_));rintro⟨ps,eps,m⟩:m.BP;rintro⟨is,rfl,V⟩:MD eps;have D:∀z∈sc.names,z.2= .free->∃c,X.env.cells.lookup z.1=some c:=λz hz ez=>I1.ok.has z.1 (S.X7 z hz ez).2
 show wpAny _ _ (spliced ((false,eval (.Lambda as b sc lp) X.env)::backTo pos (starEach [] X.env))) _ _ s1;refine Calls.spliced_cons (PC (clos:=GU X.env.cells sc.names []) I1 t1 F.nd hq S.fy (Cr D) N (codeHd_of_K I1.ok.mod.By hhd) hblt hgP λc0 cc ctv s2 H2 t kp e2 M cd ho hc0 hc0n hold=>Calls.spliced_nil #[#[t.bk _ _ q1,q2],?_])
 let W':Wd:={W with fa:=λn c d=>W.fa n c d\/(n=l/\c=is.map .int/\d=c0),NG:=(cc,X.env.qual++"<lambda>")::W.NG}
 have G:∀n c d,W.fa n c d->W'.fa n c d:=λn c d z=>.inl z
 have hst:TU W W':=#[rfl,rfl,rfl,rfl,rfl,λ_ z=>mem_cons_of_mem _ z,G]
 let L:List Addr:=c0::fr.filterMap λx=>X.env.cells.lookup x
 have hLm:∀x c,x∈fr->X.env.cells.lookup x=some c->c∈L:=λx c h1 h2=>mem_cons_of_mem _ (mem_filterMap.mpr #[x,h1,h2])
 have e0 :FW X.prog X.w X.K X.mg (baseOf X.base s2.heap L) X.A X.stack s2 H2:=by
  refine Nz t (λb hb=>?_) λb hb hbf=>?_
  .rcases mem_cons.mp hb with z|z
   .rw[z];exact#[_,ho,hc0n]
   .obtain⟨x,h1,h2⟩:=mem_filterMap.mp z;rintro⟨v,o,h3,_⟩:t.cell x b h2;exact#[o,h3,t.EA x b h2]
  .rcases mem_cons.mp (t.Gh b hbf)with y|y
   .rcases mem_cons.mp hb with z|z
    .have:=I1.lt;rw[<-y,z]at this;exact absurd this (Nat.not_lt.mpr hc0)
    .obtain⟨x,h1,h2⟩:=mem_filterMap.mp z;exact t.US x b h2 y
   .rcases mem_cons.mp hb with z|z
    .exact I1.Wx hc0 (z▸y)
    .obtain⟨x,h1,h2⟩:=mem_filterMap.mp z;rintro⟨_,o,ho,_⟩:t.ok.FP.mem y;exact absurd (hZ ho) (Nat.not_lt.mpr (t.ok.az x b (hfn x) h2))
 have g:∀y c,(GU X.env.cells sc.names []).lookup y=some c->X.env.cells.lookup y=some c/\y∈fr:=λy c e=>by
  refine#[EE sc.names [] D (λ_ _ z=>by cases z) e,?_];rcases F9 sc.names [] e with⟨z,h1,h2,h3⟩|h
  .rw[<-h2];exact(S.X7 z h1 h3).1
  .cases h
 have E:∀y c,y∈fr->X.env.cells.lookup y=some c->(GU X.env.cells sc.names []).lookup y=some c:=λy c h e=>by
  rintro⟨d,hd⟩:DO (cells:=X.env.cells) (x:=y) sc.names [] (.inl #[(y,.free),PySem.mem_of_lookup (S.all y h),rfl,rfl]);rw[(g y d hd).1]at e;cases e;exact hd
 have R2:=(R.ext e1 t1).ext e2 M
 have J:∀(i:Nat) (x:Str) (n:Int),fr[i]? =some x->is[i]? =some n->∃c u,X.env.cells.lookup x=some c/\s2.heap.IsCell c (some u)/\RelV (.int n) u:=λi x n ex en=>by
  rintro⟨j,ej,hj⟩:Pd.get S.EM ex;rintro⟨n',en',hn'⟩:Pd.get V ej;rw[en]at en';cases en';rintro⟨v,q3,q4⟩:R2.get j _ hn';cases AZ q4;have hx:=(S.X7 (x,.free) (PySem.mem_of_lookup (S.all x (mem_of_getElem? ex))) rfl).2;exact Tv t hj q3 hx
 have hlen:is.length=fr.length:=by rw[<-Paired.length V,Paired.length S.EM]
 have hclo:EJ ct LT W' (baseOf X.base s2.heap L) l (is.map .int) c0:=by
  refine#[X.env.qual++"<lambda>",y,fr,as,b,sc,GU X.env.cells sc.names [],(X.mg "__name__").getD .none,ctv,cc,tb,is,Fe mS ho,mS,#[S.kind,S.co,S.gen,S.CI,S.loc,λx ex=>S.own _ (PySem.mem_of_lookup ex) rfl,S.nd,λy z c h1 h2=>t.ok.inj y z c (g y c h1).1 (g z c h2).1,λy e=>DO sc.names [] (.inl #[(y,.free),PySem.mem_of_lookup e,rfl,rfl])],S.n,λu0=>S.bind _ _ _ _ _ u0,λy c e=>?_,rfl,hlen,λi x n ex en=>?_,ht,hLT]
  .obtain⟨h1,h2⟩:=g y c e;rintro⟨j,hj⟩:mem_iff_getElem?.mp h2;have hjl:j < fr.length:=(List.getElem?_eq_some_iff.mp hj).1;rintro⟨c',u,g1,⟨o',g2,g3⟩,_⟩:J j y _ hj (List.getElem?_eq_getElem (by rw[hlen];exact hjl));rw[h1]at g1;cases g1;exact#[u,o',Fe (hLm y c h2 h1) g2,g3]
  .obtain⟨c',u,g1,⟨o',g2,g3⟩,g4⟩:=J i x n ex en;have hx:=mem_of_getElem? ex;exact#[c',u,E x c' hx g1,#[o',Fe (hLm x c' hx g1) g2,g3],g4]
 have F1:=F.run W' (baseOf X.base s2.heap L) hst (λb o e=>GV t.bk e) (λn c d z=>z.imp id λ⟨h1,h2,h3⟩=>by subst h1 h2 h3;exact hclo) f a Z
 have tbW:Bx W' H2:=⟨M.1,λr hr=>by
  rcases mem_cons.mp hr with z|z
  .rw[z];exact cd
  .exact M.2 r z⟩
 have eH:=e1.trans e2;refine wpAny_call (codeAny_mono (F1.2 X.A X.stack s2 H2 [u,.ref c0] [v,.ref c0] Q NE hr e0 (.cons r1 (.cons rfl .nil)) #[[c,.p (.fn l (is.map .int))],λ_=>0,λd=>H d=none,#[v,_,rfl,?_,.ref c0,[],rfl,?_,rfl],tbW,?_]) λr s' hq=>?_)
 .refine AF.conv (W:=W) (W':=W') rfl rfl #[rfl,rfl] G (AF.ext rc e2 (λd z=>#[z,rfl]) λd z=>?_);rintro⟨w0,z⟩:R.FQ d z;exact#[BC z,eH.there d w0 z]
 .exact(FZ (W:=W') (H:=H2)).mpr #[c0,.inr #[rfl,rfl,rfl],rfl]
 .simp only[map_nil,append_nil];cases er:cf f [c,.p (.fn l (is.map .int))]with
  |stuck=>rw[er]at m;exact m
  |ok d=>
    rw[er]at m;replace m:D3 W (rV W) B H ((Res.of d.EN).bind λb=>.ok (.p (.bl b))) Q:=m;rintro⟨kb,ekb,hA2⟩:m.BP;clear m;cases FF ekb;intro w0 H3 P;have e3:Ext H H3:=#[λb x q n=>P.2.2.1 b x (eH.but b x q n) (BC q) n,λb x q=>let⟨y,q⟩:=eH.there b x q;P.2.2.2.1 b y q];cases (Cz (W:=W') (H:=H3)).mp P.1;exact hA2 (.bl kb) H3 e3 #[P.2.1.1,λq hq=>P.2.1.2 q (mem_cons_of_mem _ hq)] JF
 .cases r with
  |error e=>exact False.elim hq
  |ok fl=>
    cases fl with
    |ret u=>exact t.after hq
    |next=>exact False.elim hq
    |brk=>exact False.elim hq
    |cont=>exact False.elim hq
theorem G9{fl:List Str}{f:Str}(h:f∉fl):∀vs:List V,(fl.zip vs).lookup f=none:=by
 induction fl with
 |nil=>intro vs;rfl
 |cons g fl a=>
   intro vs;cases vs with
   |nil=>rfl
   |cons v vs=>
     rw[zip_cons_cons,lookup_cons];have:(f == g)=false:=beq_eq_false_iff_ne.mpr λz=>h (z▸mS)
     rw[this];exact a (λz=>h (mem_cons_of_mem _ z)) vs
theorem Ie{fl:List Str}(a:fl.Nodup){f:Str}:∀{j:Nat} {vs:List V} {v:V},fl[j]? =some f->vs[j]? =some v->(fl.zip vs).lookup f=some v:=by
 induction fl with
 |nil=>intro j vs v h;cases h
 |cons g fl b=>
   intro j vs v h1 h2;rw[nodup_cons]at a;cases vs with
   |nil=>cases h2
   |cons w vs=>
     rw[zip_cons_cons,lookup_cons];cases j with
     |zero=>cases h1;cases h2;rw[beq_self_eq_true]
     |succ j=>
       have:(f == g)=false:=beq_eq_false_iff_ne.mpr λz=>a.1 (z▸mem_of_getElem? h1)
       rw[this];exact b a.2 h1 h2
section
variable{k n:Nat}{a:Addr}{Q:VK}{sp:Sp}{m:Str}{o:Expr}{es:List Expr}{ts:List T}{x:Str}{p ap pos:Pos}{to:TE}
theorem WY{c:C}(h:c.UG=true):∃o fs,c= .obj o fs:=by
 cases c with
 |obj o fs=>exact#[o,fs,rfl]
 |_=>cases h
theorem PX{c:C}(h:c.Jd=true):∃fs,c= .obj true fs:=by
 cases c with
 |obj o fs=>cases (show o=true from h);exact#[fs,rfl]
 |_=>cases h
theorem Jy{env:PySem.Env}(h:env=X.env):∀{es:List Expr} {ts:List T},E7 X W cf es ts->(backTo pos (starEach es env)).all (!·.1)=true
 |_,_,.nil=>rfl
 | _,_,.cons he hs=>by
   rw[A2 he.st];have:=Jy h hs;unfold backTo at this ⊢;rw[map_cons,all_cons,this];rfl
theorem Sz(hs:E7 X W cf es ts)(b:Jc es.length ap pos=true):eval (.Call (.Attribute (.Name x p) m ap) es [] pos) X.env=(do
 let c <-eval (.Name x p) X.env
 standAt ap.atName
 let(f,first) <-holding [c] (getMethod c m (do return (<-importBound (.Name x p) X.env).getD true))
 callWith pos f first (backTo pos (starEach es X.env)) (backToKw pos (keywordEach [] X.env))):=by
 unfold Jc at b;rw[bA,decide_eq_true_eq]at b
 have d:methodCallForm (es.length + ([]:List Keyword).length) (backTo pos (starEach es X.env)) (backToKw pos (keywordEach [] X.env))=true:=by
  unfold methodCallForm;rw[Jy rfl hs,show(backToKw pos (keywordEach [] X.env))=[]from rfl];simp
  lia
 show(do
  let c <-attributeBase (.Name x p) m X.env (eval (.Name x p) X.env)
  standAt ap.atName
  methodCall (.Name x p) m ap pos X.env c (es.length+([]:List Keyword).length) (backTo pos (starEach es X.env)) (backToKw pos (keywordEach [] X.env)))=_
 rw[show attributeBase (.Name x p) m X.env (eval (.Name x p) X.env)=eval (.Name x p) X.env from rfl];unfold methodCall calleeOf methodCallPos;rw[d];simp[b.1]
def cV(W:Wd)(cf:CF)(m:Str)(sp:Sp)(ts:List T)(to:TE):TE:=λY H Q=>to Y H λx H1=>∃a dx fs,x= .ref a/\H1 a=some (.ins W.lc dx fs)/\fs.lookup m=none/\tG W (NP W) (BK cf ts) Y H1 λvs H2=>sp (x::vs) H2 Q NE
theorem Us(c:Kt X.K W.lc)(hm:Meth X.K W.lc m a)(F:QR X.prog X.w X.K X.mg X.base sp k a)(f:BU k X.A)(b:Jc es.length ap pos=true)(g:PE X (.Name x p) to)(hs:E7 X W cf es ts):PE X (.Call (.Attribute (.Name x p) m ap) es [] pos) (cV W cf m sp ts to):=by
 intro p0 s Y H Q I h;refine PySem.W.methodCall_KW (AS (g p0 s Y H _ I h) λu s1 ⟨x,H1,d,e,a,dx,fs,ex,i,l,q⟩=>?_) (Sz hs b);subst ex;obtain rfl:u=Value.ref a:=e;refine Lm d i c hm l ?_;exact Gk (fst:=[.ref a]) (fvs:=[.ref a]) F f (.cons rfl .nil) hs d q
theorem Vd{F:Env->Res C}{Fs:Env->Res (List C)}{f:Nat}(hf:m∉W.fl)(h:tG W (rV W) (λU=>(F U).bind λc=>if c.UG then(Fs U).bind λcs=>cf f (c::cs)else .stuck) Y H Q):
 tG W (rV W) F Y H λx H1=>∃a dx fs,x= .ref a/\H1 a=some (.ins W.lc dx fs)/\fs.lookup m=none/\tG W (NP W) Fs Y H1 λvs H2=>QU W (cf f) (x::vs) H2 Q NE:=by
 rintro⟨U,B,R,u⟩:h;refine#[U,B,R,u.Dn (Ext.refl H) λc v H1 e1 t1 e h1=>?_];cases d:c.UG with
 |false=>rw[d]at h1;exact h1.elim
 |true=>
 rw[d,iP rfl]at h1;rintro⟨o,fs,rfl⟩:WY d;have l:=e;rintro⟨a,dx,vs,rfl,t,_⟩:l;refine#[a,dx,_,rfl,t,G9 hf vs,U,B,R.ext e1 t1,h1.Dn e1 λcs us H2 e2 t2 ⟨O,r⟩ h2=>#[.obj o fs::cs,λb=>open Classical in if H1 b=none then O b+1 else 0,λb=>H b=none,#[.ref a,us,rfl,?_,BB.shift (r.imp (Ext.refl _) (λj b z=>#[e1.none z.1,(iP z.1).trans (by rw[z.2])]) λb z=>?_)],t2,?_]]
 .exact AF.mono e e2.keep (λb y p q n=>#[e2.but b y q n,p,iN (BC q)]) λb y p q n=>let⟨z,w⟩:=R.FQ b p;#[e2.but b y q n,BC w,(e1.trans e2).there b z w]
 .obtain⟨y,q⟩:=R.FQ b z;exact#[BC q,(e1.trans e2).there b y q]
 .cases g:cf f (.obj o fs::cs)with
  |stuck=>rw[g]at h2;exact h2
  |ok c=>
    rw[g]at h2;have i:=e1.trans e2;exact λv H' r=>h2 v H' (QS.ext i (λb x q=>BC q) r.2) r.2.1 (r.1.ext (Ext.refl _) (λa z=>z.elim i.none id) λ_ z=>z.elim)
theorem Ol(hK:W.K=X.K)(c:Kt X.K W.lc)(hm:Meth X.K W.lc m a)(hf:m∉W.fl)(F:Fv X W cf k n [] a)(d:BU k X.A)(b:Jc es.length ap pos=true)(e:AR X W cf (.Name x p) t)(hs:E7 X W cf es ts):AR X W cf (.Call (.Attribute (.Name x p) m ap) es [] pos) (.Bq n t ts):=by
 have f:QR X.prog X.w X.K X.mg X.base (QU W (cf n)) k a:=by
  have:(λcs=>cf n (cs++([]:List P).map .p))=cf n:=funext λcs=>by rw[map_nil,append_nil]
  rw[<-this];exact F
 exact AR.of hK (Ai (Us c hm f d b e.v hs) λY H Q z=>Vd hf z) rfl
theorem run_mk{us:List Value}{vs:List V}(M:Mk X.K W.lc a)(F:QR X.prog X.w X.K X.mg X.base sp k a)(i:BU (k + 1) X.A)(I:∅)(r:Vals vs us)
 (h:∀x dx,H x=none->H dx=none->dx≠x->sp (.ref x::vs) (upd (upd H dx (.own x)) x (.ins W.lc dx [])) (λv H2=>v= .AG/\Q (.ref x) H2) NE):(X|||(call (.ref W.lc) us)) (EP X p0 Y Q) X.xe s:=by
 have hq:=h (s.heap.objs.size+1) s.heap.objs.size (I.Aj.fresh (Nat.le_succ _)) (I.Aj.fresh (Nat.le_refl _)) (Nat.ne_of_lt (Nat.lt_succ_self _));have c:=Inv.made (C:=W.lc) I;refine wpAny_call (Pm (f:=a) I.GC M.makes M.init (beq_iff_eq.mp M.fn) (codeAny_mono (F.2 _ X.stack _ _ (Value.ref (s.heap.objs.size+1)::us) (V.ref (s.heap.objs.size+1)::vs) _ NE (i.make W.lc us []) (c.ZL.make W.lc us []) (.cons rfl r) hq) λr s' b=>?_));cases r with
 |error e=>exact False.elim b
 |ok fl=>
   cases fl with
   |ret u=>
     rintro⟨v,H',j,d,ev,g⟩:c.after b;subst ev;exact#[d,#[V.ref (s.heap.objs.size+1),H',j,rfl,g]]
   |next=>exact False.elim b
   |brk=>exact False.elim b
   |cont=>exact False.elim b
theorem Om(hK:W.K=X.K)(M:Mk X.K W.lc a)(F:QR X.prog X.w X.K X.mg X.base (Vr W (cf n)) k a)(d:BU (k + 1) X.A)(f:Gl X x)(hm:X.mg x=some (.ref W.lc))(b:ng x)(he:AR X W cf e t):AR X W cf (.Call (.Name x p) [e] [] pos) (.make n [t]):=by
 refine AR.of hK (Ai (t:=Ue W.lc (Vr W (cf n)) [] NE (tG W (NP W) (BK cf [t]))) ?_ λY H Q z=>Ve z) rfl;intro p0 s Y H Q I h;refine wpAny_Call_Name_kw (G3 I f hm ?_ b);refine PySem.W.callWith_K (h₀:=X.base) I.ok.mod.By M.kp (AS (OZ (.cons he .nil) pos p0 s Y H _ I h) λus s1 ⟨vs,H1,c,r,q⟩=>#[c.GC,?_]) (A2 he.st [] _) rfl;exact run_mk M F d c r λx dx h1 h2 g=>by have:=q x dx h1 h2 g;rwa[append_nil]at this
variable{j:Nat}
theorem Yy{F:Env->Res C}{f:Str}(i:W.fl.Nodup)(l:W.fl[j]? =some f)(c:Kt X.K W.lc)(na:C5 X.K W.lc f)(h:tG W (rV W) (λU=>(F U).bind λc=>Res.of (DB j c)) Y H Q):Vk X.K (tG W (rV W) F) f Y H Q:=by
 rintro⟨U,B,R,r⟩:h;refine#[U,B,R,r.step Au λc v H1 _ e1 t1 e h1=>?_];rintro⟨d,t,h2⟩:h1.of;clear h1;rintro⟨fs,e2,z⟩:Ab t;rintro⟨fd,y,rfl⟩:AU z;cases c with
 |obj o D=>
   cases o with
   |true=>cases e2
   |false=>
     cases e2;rintro⟨a,dx,vs,rfl,q,A,g,_⟩:e;rintro⟨u,w,b⟩:Pd.get g y;refine#[a,_,dx,_,u,rfl,q,c,na,Ie i l w,h2 u H1 (Ext.refl _) t1 ?_];cases fd with
     |p x=>exact b
     |d kvs=>exact b
 |_=>cases e2
theorem RA(hK:W.K=X.K){f:Str}(d:W.fl.Nodup)(e:W.fl[j]? =some f)(c:Kt X.K W.lc)(na:C5 X.K W.lc f)(b:AR X W cf (.Name x p) t):AR X W cf (.Attribute (.Name x p) f pos) (.Ak (DB j) t):=
 AR.of hK (Ai (OW b.v rfl) λY H Q z=>Yy d e c na z) rfl
end
variable{Hin:Hp}{A0:Addr->Prop}{Bo:Nat->Addr->Prop}{D:Ends}
theorem OB{own own':Nat->Addr->Prop}{bor:Addr->Prop}:∀{cs:List C} {j b:Nat} {vs:List V},cs.all C.WX=true->BB W H own bor j cs vs->BB W H own' bor' b cs vs
 |[],_,_,_,_,h=>h
 | c::cs,j,b,_,a,⟨v,r,q,h1,h2⟩=>by
   rw[all_cons,bA]at a;refine#[v,r,q,?_,OB a.2 h2];cases c with
   |p x=>exact h1
   |_=>cases a.1
theorem Aq.called{i:Nat}{c c':C}{v:V}{H2:Hp}(S:Aq W Hin A0 Bo H U Y)(I:∀i c,A8 U i=some c->∃v,Y[i]? =some (some v)/\AF W H (λa=>O a=i/\(Hin a=none\/A0 a)) (Bo i) c v)
 (G:A8 U i=some c)(E:Y[i]? =some (some v))(r:DC W H (λa=>O a=i/\(Hin a=none\/A0 a)) c' v H2)(F:c'.own=true):Aq W Hin A0 Bo H2 (U.set i (some c')) Y:=by
 rintro⟨t,o,f,m,g⟩:r
 have Sv:∀b,((∃x,Hin b=some x)/\¬A0 b)->¬(O b=i/\(Hin b=none\/A0 b)):=λb h z=>by
  rintro⟨⟨x,q⟩,n⟩:h;rcases z.2 with k|k
  .rw[k]at q;cases q
  .exact n k
 refine#[by rw[length_set];exact S.len,o,#[λb=>open Classical in if H b=none\/O b=i then i else O b,λj d q=>?_],S.bo,λb y q n l=>?_,λb y q=>?_,S.kp.trans g]
 .rw[Cq]at q;split at q
  .rename_i e;subst e;rw[iP (IQ G)]at q;cases q;exact#[v,E,D6 F t λa x z _=>#[iP (z.imp id (·.1)),z.elim (λk=>.inl (S.new k)) (·.2)]]
  .rename_i e;rintro⟨u,A,w⟩:I j d q;refine#[u,A,w.mono g (λb y p k n=>#[f b y k (λz=>e (z.1.symm.trans p.1)) n,?_,p.2]) λb y p k n=>#[f b y k (Sv b (S.bo j b p)) n,p]];exact(iN λz=>z.elim (BC k) λz=>e (z.symm.trans p.1)).trans p.1
 .exact f b y (S.F5 b y q n l) (Sv b #[#[y,q],n]) l
 .obtain⟨z,q⟩:=S.FQ b y q;exact m b z q
theorem RK{i f:Nat}{m:Str}{ts:List T}(hf:m∉W.fl)(h:tS W [] (Nv.exec cf As (.HS i f ts)) D Y H):Js (cV W cf m (Vr W (cf f)) ts (ES i)) D Y H:=by
 rintro⟨Hin,A0,Bo,U,S,d⟩:h
 replace d:Bh W Hin A0 Bo [] D Y (match A8 U i with
  |some c=>if c.Jd then(BK cf ts U).fl λcs=>if cs.all C.WX then(cf f (c::cs)).fl λc'=>if c'.Jd then .nx (U.set i (some c'))else .stuck else .stuck else .stuck
  |none=>.stuck):=d
 rintro⟨F,n⟩:S.env;cases j:A8 U i with
 |none=>rw[j]at d;exact d.elim
 |some c=>
   rw[j]at d;cases hm:c.Jd with
   |false=>simp only[hm]at d;exact d.elim
   |true=>
     simp only[hm,if_true]at d;rintro⟨fs,rfl⟩:PX hm;rintro⟨v,k,u⟩:n i _ j;rintro⟨a,dx,vs,rfl,y,_⟩:u;refine#[_,k,a,dx,_,rfl,y,G9 hf vs,U,_,S.rev,d.step S λcs us H1 e t ⟨P,r⟩ h1=>?_];have q:=S.ext e t;rintro⟨O,o⟩:q.env;rintro⟨A,k1,k2⟩:o i _ j;rw[k]at k1;cases k1;cases l:cs.all C.WX with
     |false=>simp only[l]at h1;exact h1.elim
     |true=>
       simp only[l,if_true]at h1;refine#[.obj true fs::cs,λb=>if O b=i then 0 else 1,λb=>O b=i/\(Hin b=none\/A0 b),#[.ref a,us,rfl,D6 rfl k2 λb x z _=>#[z,iP z.1],OB l r],t,?_];cases p:cf f (.obj true fs::cs)with
       |stuck=>rw[p]at h1;exact h1
       |ok c'=>
         rw[p]at h1;intro v H' r' w;cases w;cases g:c'.Jd with
         |false=>simp only[Res.fl,g]at h1;exact h1.elim
         |true=>
           simp only[Res.fl,g,if_true]at h1;rintro⟨E,rfl⟩:PX g;exact h1 Y H' (q.called o j k r' rfl) (AL.refl _ _)
theorem OF{f:Str} :∀{fl:List Str} {vs:List V},fl.Nodup->fl[vs.length]? =some f->L2.Bz f y (fl.zip vs)=fl.zip (vs++[y]):=by
 intro fl
 induction fl with
 |nil=>intro vs _ h;cases h
 |cons g fl b=>
   intro vs a h;rw[nodup_cons]at a;cases vs with
   |nil=>cases h;rw[List.zip_nil_right];cases fl<;>rfl
   |cons v vs=>
     have c:¬g=f:=λz=>a.1 (z▸mem_of_getElem? (show fl[vs.length]? =some f from h))
     show(if g=f then(g,y)::fl.zip vs else(g,v)::L2.Bz f y (fl.zip vs))=(g,v)::fl.zip (vs++[y]);rw[iN c,b a.2 h]
theorem Aq.Zz(i:Nat)(e:Ext H H1)(g:∀i c,A8 U i=some c->∃v,Y[i]? =some (some v)/\AF W H (λa=>O a=i/\(Hin a=none\/A0 a)) (Bo i) c v):
 ∀j c,A8 U j=some c->∃v,Y[j]? =some (some v)/\AF W H1 (λa=>(if(H a).isNone then i else O a)=j/\(Hin a=none\/A0 a)) (Bo j) c v:=λj d q=>by
 rintro⟨u,f,b⟩:g j d q;refine#[u,f,b.mono e.keep (λa x p k n=>#[e.but a x k n,?_,p.2]) λa x p k n=>#[e.but a x k n,p]];show(if(H a).isNone then i else O a)=j;rw[k];exact p.1
theorem Pd.zip{β:Type}{F:α->β->Prop}:∀{xs:List α} {ys:List β},Paired F xs ys->∀p∈xs.zip ys,F p.1 p.2
 |_,_,.nil,p,h=>by cases h
 | _,_,.cons h t,p,a=>by
   rcases mem_cons.mp a with rfl|a
   .exact h
   .exact Pd.zip t p a
theorem Te{fs:List Fd}{d:Fd}{y:V}(hl:fs.length=vs.length)(h:U0 fs vs)(hd:d.XN=true->∀p∈fs.zip vs,p.1.XN=true->p.2≠y):U0 (fs++[d]) (vs++[y]):=by
 unfold U0 at h ⊢;rw[List.zip_append hl,List.pairwise_append];refine#[h,List.pairwise_singleton _ _,λp a q hq h1 h2=>?_];rw[zip_cons_cons,List.zip_nil_left,mem_singleton]at hq;subst hq;exact hd h2 p a h1
theorem L0{C dx:Addr}{fs:List (Str×V)}:XY (.ins C dx fs):=#[(λ_ z=>nomatch z),(λ_ _ z=>nomatch z),rfl]
theorem K5{own bor own':Addr->Prop}{d:Fd}{o:HO}(h:Dl W H own bor true d v)(f:H a=some o)(mu:XY o)(hd:∀b es,o≠DX b es)(g:∀b x,own b->H b=some x->own' b):Dl W (upd H a o') own' bor' true d v:=by
 have kp:AH H (upd H a o'):=BR f mu.1 mu.2.1;cases d with
 |p x=>exact A5.mono kp h
 |d kvs=>
   rintro⟨b,es,e,h1,h2⟩:h;refine#[b,es,e,#[?_,g b _ h1.2 h1.1],h2.mono kp];have c:H b=some (DX b es):=h1.1;rw[A4 λz=>by rw[z,f]at c;exact hd _ _ (Option.some.inj c)];exact c
theorem Aq.grow{i:Nat}{fs:List Fd}(S:Aq W Hin A0 Bo H U Y)(e:Ext H H1)(t:Bx W H1)(u:A8 U i=some (.obj true fs)):∃a dx vs,Y[i]? =some (some (.ref a))/\H1 a=some (.ins W.lc dx (W.fl.zip vs))/\vs.length=fs.length/\
 ∀d y B,Dl W H1 (λb=>H b=none) B true d y->Aq W Hin A0 Bo (upd H1 a (.ins W.lc dx (W.fl.zip (vs++[y])))) (U.set i (some (.obj true (fs++[d])))) Y:=by
 rintro⟨O,A⟩:S.env;have J:=S.ext e t;have j:=Aq.Zz (H1:=H1) i e A;rintro⟨v,k,E⟩:A i _ u;rintro⟨a,dx,vs,rfl,w,r,g,hd⟩:E;have hl:=Paired.length g;have c:H1 a=some (.ins W.lc dx (W.fl.zip vs)):=e.but a _ w rfl;have l:(if(H a).isNone then i else O a)=i/\(Hin a=none\/A0 a):=#[by rw[w];exact r.1,r.2];refine#[a,dx,vs,k,c,hl.symm,λd y B o=>J.chg j u k l c L0 #[a,dx,vs++[y],rfl,A6,l,?_,?_]]
 .refine Pd.append (Paired.EY g λd v z=>K5 (z.mono e.keep (λb x p q n=>#[e.but b x q n,?_]) λb x p q n=>#[e.but b x q n,p]) c L0 (λ_ _ z=>HO.noConfusion z) λb x z _=>z) (.cons (K5 o c L0 (λ_ _ z=>HO.noConfusion z) λb x z q=>#[?_,.inl (S.new z)]) .nil)
  .exact#[by rw[q];exact p.1,p.2]
  .rw[show H b=none from z];rfl
 .refine Te hl hd λh1 p f h2 z=>?_
  have f1:=Pd.zip g p f;rintro⟨p1,p2⟩:p;cases p1 with
  |p x=>cases h2
  |d kvs=>
    cases d with
    |p x=>cases h1
    |d m=>
      rintro⟨b,es,e1,e2,_⟩:f1;rintro⟨K,F,I,G,_⟩:o;cases (e1.symm.trans z).trans I;exact BC e2.1 G.2
theorem Vy{K:Frag}{i n:Nat}{f:Str}{t:T}(F:W.fl.Nodup)(G:W.fl.length < 1000)(hf:W.fl[n]? =some f)(I:Kt K W.lc)(na:C5 K W.lc f)(h:tS W [] (Nv.exec cf As (.Ce i false (EL (FI n)) [t])) D Y H):YL K (ES i) (XD (tG W (rV W) (ev cf t))) f D Y H:=by
 rintro⟨Hin,A0,Bo,U,S,g⟩:h
 replace g:Bh W Hin A0 Bo [] D Y (if !(A8 U i).any (λ_=>true)then .stuck else((ev cf t U).bind λc=>(Res.ok []:Res (List C)).bind λcs=>.ok (c::cs)).fl λcs=>match(A8 U i).bind λc=>EL (FI n) c cs with
  |some c'=>.nx (U.set i (some c'))
  |none=>.stuck):=g
 cases l:A8 U i with
 |none=>simp only[l]at g;exact g.elim
 |some c=>
   simp only[l,Option.any_some,Bool.not_true,Bool.false_eq_true,if_false,Option.bind_some]at g
   rw[show(((ev cf t U).bind λc=>(Res.ok []:Res (List C)).bind λcs=>.ok (c::cs)).fl λcs=>match EL (FI n) c cs with
     |some c'=>Fl.nx (U.set i (some c'))
     |none=>.stuck)=(ev cf t U).fl λx=>match FI n c x with
     |some c'=>.nx (U.set i (some c'))
     |none=>.stuck from by cases ev cf t U<;>rfl]at g
   refine#[U,_,S.rev,g.step S λx y H1 e t r h1=>?_];cases es:FI n c x with
   |none=>rw[es]at h1;exact h1.elim
   |some c'=>
     rw[es]at h1;rintro⟨fs,e1,e2⟩:Ab es
     have J:c= .obj true fs:=by
      cases c with
      |obj o L=>
        cases o with
        |true=>cases e1;rfl
        |false=>cases e1
      |_=>cases e1
     subst J;split at e2
     case isFalse=>cases e2
     rename_i hl;rintro⟨d,j,rfl⟩:AU e2
     have fin:∀H2,Ext H H2->Bx W H2->Dl W H2 (λb=>H b=none) (λ_=>∃x,H2=x) true d y->ES i Y H2 λx m=>∃a C dx fs,x= .ref a/\m a=some (.ins C dx fs)/\Kt K C/\C5 K C f/\fs.length < 1000/\D.nx Y (upd m a (.ins C dx (L2.Bz f y fs))):=λH2 e2 t2 E=>by
      rintro⟨a,dx,vs,A,w,v,q⟩:S.grow e2 t2 l;refine#[_,A,a,_,dx,_,rfl,w,I,na,?_,?_]
      .rw[length_zip];lia
      .rw[OF F (by rw[v,hl];exact hf)];exact h1 Y _ (q d y _ E) (AL.refl _ _)
     cases x with
     |p z=>cases j;exact .inl (fin H1 e t r)
     |obj _ _=>cases j
     |Bl o kvs=>
       cases o with
       |false=>cases j
       |true=>
         cases j;rintro⟨b,es,k1,k2,k⟩:r;exact .inl (fin H1 e t #[b,es,k1,k2,k])
     |lst o ps=>
       cases o with
       |false=>cases j
       |true=>
         cases j;rintro⟨b,us,rfl,⟨k1,k2⟩,k⟩:r;exact .inr #[b,us,rfl,k1,λo=>fin _ (IX (u:=.lst us) e k2) (Ij t k1 (λ_ z=>nomatch z) (λ_ _ z=>nomatch z) rfl) (CN.mpr #[b,us,rfl,#[rfl,o,A6],k.mono (BR k1 (λ_ z=>nomatch z) λ_ _ z=>nomatch z)])]
structure XW(a b:Scope):Prop where
 loc:∀x,a.names.lookup x=some .local->b.names.lookup x=some .local
 ay:∀x,a.names.lookup x=some .cell->b.names.lookup x=some .cell
 X7:∀x,a.names.lookup x=some .free->b.names.lookup x=some .free\/b.names.lookup x=some .cell
 fe:∀x,a.names.lookup x=some .globalImplicit->b.names.lookup x=some .globalImplicit
theorem XW.refl(a:Scope):XW a a:=#[λ_ h=>h,λ_ h=>h,λ_ h=>.inl h,λ_ h=>h]
theorem Cf{env:PySem.Env}:∀{names:List (Str×NameKind)} {x:Str},names.lookup x=some .globalImplicit->
 (names.map λ(n,k)=>if(k^^^n&&&env)then(n,NameKind.cell)else(n,k)).lookup x=some .globalImplicit
 |[],_,h=>by simp at h
 | (n,k)::r,x,h=>by
   have b:=@Cf env r x;rw[map_cons];cases a:x == n with
   |true=>
     simp only[lookup_cons,a]at h;cases h;simp[lookup_cons,a]
   |false=>
     simp only[lookup_cons,a]at h;dsimp only;split
     .simp only[lookup_cons,a];exact b h
     .simp only[lookup_cons,a];exact b h
structure Bb(ct:Ct)(X:Cx)(W:Wd)(cf:CF)(k:Nat):Prop where
 K:W.K=X.K
 w:W.w=X.w
 N:X.N=ct.N
 nd:X.N.Nodup
 sc:XW ct.sc X.env.scope
 fn:ct.df=true->∀x,X.fn x=true
 calm:X.calm=true
 room:BU (k+1) X.A
 po:PassesOwn (model X.prog X.w) X.A X.env X.xe
 gl:∀x c,ct.gl.lookup x=some c->∃u v,X.mg x=some u/\RelV v u/\∀H own bor,AF W H own bor c.bor v
 own:∀x∈Ja,ct.gl.lookup x=none->ct.fns.lookup x=none->ct.cls.lookup x=none->X.mg x=none
 fns:∀x f,ct.fns.lookup x=some f->∃a,X.mg x=some (.ref a)/\W.fa f [] a/\Fv X W cf k f [] a
 UA:Kt X.K W.lc
 fld:W.fl=ct.fld/\ct.fld.Nodup/\ct.fld.length < 1000/\∀f∈ct.fld,C5 X.K W.lc f
 NS:∀m f,ct.NS.lookup m=some f->m∉W.fl/\∃a,Meth X.K W.lc m a/\Fv X W cf k f [] a
 NR:∀m f,ct.NR.lookup m=some f->m∉W.fl/\∃a,Meth X.K W.lc m a/\Fm X W cf k f a
 cls:∀x f,ct.cls.lookup x=some f->X.mg x=some (.ref W.lc)/\∃a,Mk X.K W.lc a/\Fm X W cf k f a
 fv:∀n caps a,W.fa n caps a->Fv X W cf k n caps a
 lam:∀lp l,ct.Lc.lookup lp=some l->Xy X W cf k ct (λl n t=>ct.lt l n t=true) lp
section
variable{ct:Ct}{k:Nat}
theorem Cp{l:List Str}{i:Nat}(h:l.idxOf? x=some i):l[i]? =some x:=by
 unfold List.idxOf? at h;rintro⟨h1,h2,_⟩:List.findIdx?_eq_some_iff_getElem.mp h;rw[List.getElem?_eq_getElem h1];exact congrArg some (beq_iff_eq.mp h2)
theorem Em(h:Gx x=true):ng x/\(x == ("__classdict__":Str))=false/\x≠"__name__":=by
 unfold Gx at h;rw[bA,bA]at h;exact#[by simpa using h.1.1,by simpa using h.1.2,of_decide_eq_true h.2]
theorem Bb.slot(L:Bb ct X W cf k){i:Nat}(h:ct.slot x=some i):X.N[i]? =some x/\aB X.env.scope x/\ng x/\(x == ("__classdict__":Str))=false:=by
 unfold Ct.slot at h;split at h
 .rename_i a;rw[bA]at a;rintro⟨c,b,_⟩:Em a.1;refine#[by rw[L.N];exact Cp h,?_,c,b];have hs:=a.2;unfold seen at hs;split at hs
  .rename_i e;exact .inl (L.sc.loc x e)
  .rename_i e;exact .inr (.inl (L.sc.ay x e))
  .rename_i e;rcases L.sc.X7 x e with z|z
   .exact .inr (.inr z)
   .exact .inr (.inl z)
  .cases hs
 .cases h
theorem Bb.Cy(L:Bb ct X W cf k){i:Nat}(h:ct.Cy x=some i):X.N[i]? =some x/\Loc X.env.scope x/\(X.fn x=true\/X.env.scope.names.lookup x=some .local):=by
 unfold Ct.Cy at h;split at h
 .rename_i a;rw[bA]at a;refine#[by rw[L.N];exact Cp h,?_];have hs:=a.2;unfold bound at hs;split at hs
  .rename_i e;exact#[.inl (L.sc.loc x e),.inr (L.sc.loc x e)]
  .rename_i e;exact#[.inr (L.sc.ay x e),.inl (L.fn hs x)]
  .cases hs
 .cases h
theorem Bb.glob(L:Bb ct X W cf k)(h:ct.glob x=true):Gl X x/\ng x/\x≠"__name__":=by
 unfold Ct.glob at h;rw[bA]at h;rintro⟨a,_,n3⟩:Em h.1;exact#[L.sc.fe x (of_decide_eq_true h.2),a,n3]
theorem Bb.EV(L:Bb ct X W cf k)(h:ct.own x=true):Gl X x/\X.mg x=none/\ng x/\x≠"__name__":=by
 unfold Ct.own at h;simp only[bA]at h;rintro⟨⟨⟨⟨h1,h2⟩,c⟩,b⟩,a⟩:h;rintro⟨g1,g2,g3⟩:L.glob h1;exact#[g1,L.own x (by simpa using h2) (by simpa using c) (by simpa using b) (by simpa using a),g2,g3]
theorem Bb.un(L:Bb ct X W cf k):X.A.units+200 < cLine:=by have:=L.room.un;lia
theorem Bb.pv(L:Bb ct X W cf k){i:Nat}(h:ct.slot x=some i):PE X (.Name x p) (ES i):=by
 rintro⟨h1,h2,b,a⟩:L.slot h;exact OS h1 h2 b a
variable{sc:Scope}
theorem Bb.dC(L:Bb ct X W cf k){N:List Str}{fr:List (Option Nat)}(h:QE ct.N ct.sc N sc fr=true):Df X.N X.env.scope N sc fr:=by
 have h0:LH ct.N ct.sc N sc fr=true:=h;have ok:=Df.of h0;refine#[ok.kind,ok.CI,ok.own,λy a e=>?_,ok.len,by rw[L.N];exact ok.F5];rcases ok.free y a e with z|z
 .exact .inl (L.sc.ay _ z)
 .rcases L.sc.X7 _ z with q|q
  .exact .inr q
  .exact .inl q
theorem lookup_mem{α:Type}{l:List (Str×α)}{a:α}(h:l.lookup x=some a):(x,a)∈l:=PySem.mem_of_lookup h
theorem Bb.block(L:Bb ct X W cf k)(h:QE ct.N ct.sc (ct.block sc).1.N sc (ct.block sc).2=true)(a:(ct.block sc).1.N.Nodup)(C:Addr)(s:Shared)(H:Hp)(fp:List Addr):Bb (ct.block sc).1 (AQ X (ct.block sc).1.N sc C s H fp) W cf k:=by
 have ok:=L.dC h;refine#[L.K,L.w,rfl,a,#[λx e=>?_,λx e=>?_,λx e=>?_,λx e=>?_],λz=>(by cases z),L.calm,L.room,PassesOwn.never,L.gl,L.own,L.fns,L.UA,L.fld,L.NS,L.NR,L.cls,L.fv,λlp q e=>(by cases e)]
 .exact lookup_relabel_local e
 .exact absurd rfl (ok.CI _ (lookup_mem e))
 .exact BJ e
 .exact Cf e
theorem Ko{es:List Expr}{env:PySem.Env}:assignEach (.Name x p::es) env=(false,assign (.Name x p) env)::assignEach es env:=rfl
theorem KQ(L:Bb ct X W cf k):∀{es:List Expr} {is:List Nat},JX ct es=some is->XX X es (XQ is)/\(assignEach es X.env).length=is.length/\(assignEach es X.env).findIdx? (·.1)=none/\∀i∈is,i < X.N.length
 | [],is,h=>by
   unfold JX at h;cases h;exact#[S5,rfl,rfl,λi hi=>by cases hi]
 | e ::es,is,h=>by
   cases e with
   |Name x p=>
     rintro⟨i,h1,h2⟩:Ab h;replace h1:ct.Cy x=some i:=h1;rintro⟨l,g,rfl⟩:oM h2;rintro⟨d,c,b,a⟩:KQ L g;rintro⟨t1,t2,t3⟩:L.Cy h1;refine#[OO (Me L.nd t1 t2 t3) d rfl,by rw[Ko,lC,lC,c],?_,λj f=>?_]
     .rw[Ko,List.findIdx?_cons,b];rfl
     .rcases mem_cons.mp f with z|z
      .rw[z];exact(List.getElem?_eq_some_iff.mp t1).1
      .exact a j z
   |_=>rintro⟨i,h1,h2⟩:Ab h;cases h1
theorem OR(L:Bb ct X W cf k){tg:Expr}{g:Tg}(h:XH ct tg=some g):PG X tg (gT W g)/\∀i∈g.slots,i < X.N.length:=by
 cases tg with
 |Name x p=>
   unfold XH at h;rintro⟨i,h1,rfl⟩:oM h;rintro⟨t1,t2,t3⟩:L.Cy h1;refine#[Me L.nd t1 t2 t3,λj e=>?_];rw[mE e];exact(List.getElem?_eq_some_iff.mp t1).1
 |Tuple es n p=>
   unfold XH at h;rintro⟨is,h1,rfl⟩:oM h;rintro⟨d,c,b,a⟩:KQ L h1;refine#[?_,a];show PG X (.Tuple es n p) (X5 W.K is.length (XQ is));rw[L.K];exact OP L.calm d c b
 |_=>unfold XH at h;cases h
end
structure TX(ct:Ct)(X:Cx)(W:Wd):Prop where
 bin:∀op g,bM op=some g->BG X (binaryOp op) (AV W g)
 cmp:∀op,BG X (compareOp op) (AV W (Nn op))
 neg:Hl X (unaryOp .USub) (BZ W (He Nb))
 ix:QQ X (AV W Ae)
 sl:Xv X (λx lo hi H Q=>∃c r,Dk W H c x/\JA lo hi c=some r/\Cc W H r Q)
 fq:∀{x:Str} {g:C->Option C} {p pos:Pos} {e:Expr} {te:TE},ct.own x=true->aA x=some g->A7 e=true->PE X e te->PE X (.Call (.Name x p) [e] [] pos) (λY H Q=>te Y H λv H1=>BZ W g v H1 Q)
 eM:∀{x y:Str} {g:C->Option C} {p q pos pos':Pos} {e:Expr} {te:TE},special ct x (.Call (.Name y q) [e] [] pos')=some g->A7 e=true->PE X e te->PE X (.Call (.Name x p) [.Call (.Name y q) [e] [] pos'] [] pos) (λY H Q=>te Y H λv H1=>BZ W g v H1 Q)
 FN:∀{x y:Str} {g:C->Option C} {p q pos:Pos} {e:Expr} {te:TE},ct.own x=true->x="isinstance"->SS ct (.Name y q)=some g->A7 e=true->PE X e te->PE X (.Call (.Name x p) [e,.Name y q] [] pos) (λY H Q=>te Y H λv H1=>BZ W g v H1 Q)
 bX:∀{ks:List (Option Expr)} {vs:List Expr} {pos:Pos},(ks.isEmpty && vs.isEmpty)=true->PE X (.Dict ks vs pos) (λY H Q=>Cc W H (.Bl true []) Q)
 eU:∀{m:Str} {g:C->C->Option C} {o e:Expr} {to te:TE} {ap pos:Pos},(m="get"/\g=Ey)\/(m="index"/\g=Dy)->Jc 1 ap pos=true->Uv o=true->A7 e=true->PE X o to->PE X e te->PE X (.Call (.Attribute o m ap) [e] [] pos) (λY H Q=>to Y H λx H1=>(∃c y r,Dk W H1 c x/\g c y=some r)/\te Y H1 λy H2=>AV W g x y H2 Q)
 eg:∀{m:Str} {o:Expr} {to:TE} {ap pos:Pos},m="upper"->Jc 0 ap pos=true->Uv o=true->PE X o to->PE X (.Call (.Attribute o m ap) [] [] pos) (λY H Q=>to Y H λv H1=>BZ W Ga v H1 Q)
 fj:∀{x:Str} {g:Int->Int->Option Int} {p pos:Pos} {a b:Expr} {ta tb:TE},ct.own x=true->(x="max"/\g=Pl)\/(x="min"/\g=Ph)->A7 a=true->A7 b=true->PE X a ta->PE X b tb->PE X (.Call (.Name x p) [a,b] [] pos) (Vi (AV W (Aw g)) ta tb)
 walk:∀{l tg:Expr} {tl:TE},PE X l tl->PI X tg l (wI W AM tl)
 XE:∀{x:Str} {p pos:Pos} {a tg:Expr} {ta:TE},ct.own x=true->x="range"->A7 a=true->PE X a ta->PI X tg (.Call (.Name x p) [a] [] pos) (wI W DQ ta)
 dy:∀{x:Str} {p pos:Pos} {a tg:Expr} {ta:TE},Cb tg=true->ct.own x=true->x="enumerate"->A7 a=true->PE X a ta->PI X tg (.Call (.Name x p) [a] [] pos) (wI W J0 ta)
 zip:∀{x:Str} {p pos:Pos} {a b tg:Expr} {ta tb:TE},Cb tg=true->ct.own x=true->x="zip"->A7 a=true->A7 b=true->PE X a ta->PE X b tb->PI X tg (.Call (.Name x p) [a,b] [] pos) (Yd W Jh ta tb)
 KL:∀{x:Str} {p pos:Pos} {a b tg:Expr} {ta tb:TE},ct.own x=true->x="range"->A7 a=true->A7 b=true->PE X a ta->PE X b tb->PI X tg (.Call (.Name x p) [a,b] [] pos) (Yd W KL ta tb)
def Pk(W:Wd)(cf:CF)(k:Nat)(e:Expr):Prop:=∀{ct:Ct} {X:Cx} {t:T},Bb ct X W cf k->kE ct e=some t->AR X W cf e t
section
variable{k:Nat}{ct:Ct}
theorem Qt{op:CmpOp}{c:C}(h:Nn op a b=some c):∃k,c=bC k:=by
 cases op with
 |Eq=>rintro⟨k,_,rfl⟩:AU h;exact#[_,rfl]
 |NotEq=>rintro⟨k,_,rfl⟩:AU h;exact#[_,rfl]
 |Lt=>rintro⟨_,_,h⟩:Ab h;rintro⟨k,_,rfl⟩:AU h;exact#[_,rfl]
 |Gt=>rintro⟨_,_,h⟩:Ab h;rintro⟨k,_,rfl⟩:AU h;exact#[_,rfl]
 |GtE=>rintro⟨_,_,h⟩:Ab h;rintro⟨k,_,rfl⟩:AU h;exact#[_,rfl]
 |LtE=>rcases or_some h with h|h<;>(rintro⟨_,_,h⟩:Ab h;rintro⟨k,_,rfl⟩:AU h;exact#[_,rfl])
 |Is=>rintro⟨_,_,h⟩:Ab h;rintro⟨_,rfl⟩:A3 h;exact#[_,rfl]
 |IsNot=>rintro⟨_,_,h⟩:Ab h;rintro⟨_,rfl⟩:A3 h;exact#[_,rfl]
 |In=>rintro⟨k,_,rfl⟩:AU h;exact#[_,rfl]
 |NotIn=>rintro⟨k,_,rfl⟩:AU h;exact#[_,rfl]
theorem E5{es:List Expr}(b:∀e∈es,Pk W cf k e)(L:Bb ct X W cf k):∀{ts:List T},PU ct es=some ts->E7 X W cf es ts:=by
 induction es with
 |nil=>intro ts h;cases h;exact .nil
 |cons e es a=>
   intro ts h;rintro⟨t,h1,h2⟩:Ab h;rintro⟨us,c,rfl⟩:AU h2;exact .cons (b e mS L h1) (a (λe he=>b e (mem_cons_of_mem _ he)) c)
theorem FY(hK:W.K=X.K){e:Expr}{g:C->Option C}(h:PE X e (λY H Q=>tG W (rV W) (ev cf t) Y H λv H1=>BZ W g v H1 Q))(he:∀whole,isTrue e X.env whole=(do let v <-whole;standAt e.pos;holding [v] (truthy v)))(st:A7 e=true)(nc:BF e=false):AR X W cf e (.Ak g t):=
 AR.of hK (Ai h λY H Q z=>U8 z) rfl he st nc
theorem Yw{F G:Env->Res C}{g:C->C->Option C}{Y:L2.St}{H:Hp}{Q:VK}(h:tG W (rV W) (λU=>(F U).bind λx=>(G U).bind λy=>Res.of (g x y)) Y H Q):
 tG W (rV W) F Y H λx H1=>(∃c y r,Dk W H1 c x/\g c y=some r)/\tG W (rV W) G Y H1 λy H2=>AV W g x y H2 Q:=by
 rintro⟨U,B,R,i⟩:h;refine#[U,B,R,i.step Au λc v H1 _ e1 t1 b h1=>#[?_,U,B,R.ext e1 t1,h1.step Au λd u H2 _ e2 t2 f h2=>?_]]
 .cases e:G U with
  |stuck=>rw[e]at h1;exact h1.elim
  |ok d=>
    rw[e]at h1;rintro⟨r,a,_⟩:D3.of (o:=g c d) h1;exact#[c,d,r,b.rd,a]
 .obtain⟨r,a,h2⟩:=h2.of;exact#[c,d,r,b.rd.ext e2 (λ_ z=>z) λ_ z=>z,f.rd,a,h2.new t2]
end
section
variable{k:Nat}{ct:Ct}{t:T}
variable{pos:Pos}
theorem P7{c:Const}{n:Nat}(L:Bb ct X W cf k)(h:kE ct (.Constant c n pos)=some t):AR X W cf (.Constant c n pos) t:=by
 cases c with
 |none=>cases h;exact DF L.K VX (λH _ _=>(Dp (W:=W) (H:=H)).mpr rfl) (λ_=>rfl) rfl rfl
 |bool b=>cases h;exact DF L.K Z1 (λH _ _=>(Cz (W:=W) (H:=H)).mpr rfl) (λ_=>rfl) rfl rfl
 |int i=>cases h;exact DF L.K VZ (λH _ _=>(Aa (W:=W) (H:=H)).mpr rfl) (λ_=>rfl) rfl rfl
 |str x=>cases h;exact DF L.K VV (λH _ _=>(AJ (W:=W) (H:=H)).mpr rfl) (λ_=>rfl) rfl rfl
 |_=>cases h
theorem Sj(L:Bb ct X W cf k)(h:kE ct (.Name x pos)=some t):AR X W cf (.Name x pos) t:=by
 replace h:ct.name x=some t:=h;unfold Ct.name at h;cases hs:ct.slot x with
 |some i=>
   rw[hs]at h;cases h;rintro⟨h1,h2,j,g⟩:L.slot hs;exact Rv L.K h1 h2 j g
 |none=>
   rw[hs]at h;dsimp only at h;split at h
   case isFalse=>cases h
   rename_i f;rintro⟨g1,g2,g3⟩:L.glob f;rcases or_some h with h|h
   .obtain⟨c,hl,rfl⟩:=AU h;rintro⟨u,v,d,b,e⟩:L.gl x c hl;exact DF L.K (Mf g1 d b g2) e (λ_=>rfl) rfl rfl
   .obtain⟨n,hl,rfl⟩:=AU h;rintro⟨a,d,b,_⟩:L.fns x n hl;exact DF L.K (Mf (v:=.ref a) g1 d rfl g2) (λH _ _=>(FZ (W:=W) (H:=H)).mpr #[a,b,rfl]) (λ_=>rfl) rfl rfl
theorem UE{op:PySem.BoolOp}(L:Bb ct X W cf k):∀{es:List Expr} {t:T},(∀e∈es,Pk W cf k e)->kB ct op es=some t->PE X (.BoolOp op es pos) (tG W (rV W) (ev cf t))/\PW X (.BoolOp op es pos) (tG W rB (tv cf t))
 |[],_,_,h=>by cases h
 | [e],t,a,h=>by
   rintro⟨x,h1,h2⟩:Ab h;cases h2;have hs:=a e mS L h1;cases op with
   |And=>exact#[OT hs.v,RS hs.b]
   |Or=>exact#[OT hs.v,VO hs.b]
 | e::e2::es,t,a,h=>by
   rintro⟨x,h1,h2⟩:Ab h;rintro⟨y,f,rfl⟩:AU (show(kB ct op (e2::es)).map _=some t from h2);rintro⟨d,c⟩:UE L (λe he=>a e (mem_cons_of_mem _ he)) f;have hs:=a e mS L h1;cases op with
   |And=>exact snd_and hs d c
   |Or=>exact Vt hs d c
theorem RZ(h:A7 b=true):MM b:=by
 intro o i;cases b<;>first|rfl|cases h
variable{H:Hp}
theorem Yt{F G:Env->Res C}{Y:L2.St}{Q:VK}(h:tG W (rV W) (λU=>(F U).bind λx=>(G U).bind λy=>Res.of (M7 x y)) Y H Q):ah (λx lo hi H Q=>∃c r,Dk W H c x/\JA lo hi c=some r/\Cc W H r Q) (tG W (rV W) F) (Jr (tG W (rV W) G)) Il Y H Q:=by
 rintro⟨U,B,R,f⟩:h;refine#[U,B,R,f.step Au λc v H1 _ e1 t1 e h1=>#[U,B,R.ext e1 t1,h1.step Au λd u H2 _ e2 t2 b h2=>?_]];rintro⟨r,a,g⟩:h2.of;clear h2;rintro⟨l,el,a⟩:Ab a;cases C.AW el;exact#[l,AZ b,c,r,e.rd.ext e2 (λ_ z=>z) λ_ z=>z,a,g.new t2]
theorem Ys{F G:Env->Res C}{Y:L2.St}{Q:VK}(h:tG W (rV W) (λU=>(F U).bind λx=>(G U).bind λy=>Res.of (Ou x y)) Y H Q):ah (λx lo hi H Q=>∃c r,Dk W H c x/\JA lo hi c=some r/\Cc W H r Q) (tG W (rV W) F) Il (Jr (tG W (rV W) G)) Y H Q:=by
 rintro⟨U,B,R,f⟩:h;refine#[U,B,R,f.step Au λc v H1 _ e1 t1 e h1=>#[U,B,R.ext e1 t1,h1.step Au λd u H2 _ e2 t2 b h2=>?_]];rintro⟨r,a,g⟩:h2.of;clear h2;rintro⟨l,el,a⟩:Ab a;cases C.AW el;exact#[l,AZ b,c,r,e.rd.ext e2 (λ_ z=>z) λ_ z=>z,a,g.new t2]
theorem Yr{F G J:Env->Res C}{Y:L2.St}{Q:VK}(h:tG W (rV W) (λU=>(F U).bind λx=>(G U).bind λy=>(J U).bind λz=>Res.of (Vw x y z)) Y H Q):ah (λx lo hi H Q=>∃c r,Dk W H c x/\JA lo hi c=some r/\Cc W H r Q) (tG W (rV W) F) (Jr (tG W (rV W) G)) (Jr (tG W (rV W) J)) Y H Q:=by
 rintro⟨U,B,R,n⟩:h;refine#[U,B,R,n.step Au λc v H1 _ e1 t1 j h1=>#[U,B,R.ext e1 t1,h1.step Au λd u H2 e0 e2 t2 i h2=>?_]]
 have key:∃l,d= .p (.int l):=by
  cases e:J U with
  |stuck=>rw[e]at h2;exact h2.elim
  |ok f=>
    rw[e]at h2;rintro⟨r,a,_⟩:D3.of (o:=Vw c d f) h2;rintro⟨l,el,_⟩:Ab a;exact#[l,C.AW el]
 rintro⟨l,rfl⟩:key;refine#[l,AZ i,U,B,(R.ext e1 t1).ext e2 t2,h2.step Au λf w I _ A t3 g b=>?_];rintro⟨r,a,q⟩:b.of;clear b;rintro⟨E,el,a⟩:Ab a;cases el;rintro⟨m,em,a⟩:Ab a;cases C.AW em;exact#[m,AZ g,c,r,j.rd.ext (e2.trans A) (λ_ z=>z) λ_ z=>z,a,q.new t3]
end
section
variable{k:Nat}{ct:Ct}{t:T}
variable{ifs:List Expr}
theorem VS{a:Cx}{cs:List T}(h:E7 a W cf ifs cs)(hl:cs.length<=1):Xw a ifs (tG W rB (FU cf cs)):=by
 cases h with
 |nil=>exact λp0 s Y H Q I ⟨U,B,R,z⟩=>S4 p0 s Y H Q I (z true H (Ext.refl _) R.tb rfl)
 |cons h r=>
   cases r with
   |nil=>exact S0 h.b
   |cons _ _=>simp at hl
variable{elt:Expr}{sc:Scope}{pos:Pos}
theorem Oo(hK:W.K=X.K)(m:X.calm=true){it tg:Expr}{N:List Str}{fr:List (Option Nat)}{ks:Sq}{g:Tg}{cs:List T}{wi:TI}(ok:Df X.N X.env.scope N sc fr)(hw:Src W ks (ev cf x) wi)(hi:PI X tg it wi)(st:A7 it=true)(hl:cs.length<=1)(q:∀i∈g.slots,i < fr.length)
 (f:∀C s H fp,PG (AQ X N sc C s H fp) tg (gT W g)/\AR (AQ X N sc C s H fp) W cf elt e/\E7 (AQ X N sc C s H fp) W cf ifs cs):
 AR X W cf (.ListComp elt [#[tg,it,ifs,0]] sc pos) (.comp g ks x cs e fr):=by
 have l:∀Y H Q,tG W (rV W) (ev cf (.comp g ks x cs e fr)) Y H Q->Im wi (gT W g) (tG W rB (FU cf cs)) (XD (tG W (rV W) (ev cf e))) fr Y H Q:=λY H Q z=>Vf hw q z
 have c:∀C s H fp,PG (AQ X N sc C s H fp) tg (gT W g)/\PE (AQ X N sc C s H fp) elt (XD (tG W (rV W) (ev cf e)))/\Xw (AQ X N sc C s H fp) ifs (tG W rB (FU cf cs)):=λC s H fp=>#[(f C s H fp).1,OV (f C s H fp).2.1.v,VS (f C s H fp).2.2 hl]
 have v:PE X (.ListComp elt [#[tg,it,ifs,0]] sc pos) (tG W (rV W) (ev cf (.comp g ks x cs e fr))):=Ai (OX N fr m ok hi c (DJ st _)) l;refine#[v,Gr (Ur hK v λ_=>rfl) λY H Q z=>U6 z,rfl,λi y py b o j p hf=>?_];have hs:swapsWith (.ListComp elt [#[tg,it,ifs,0]] sc pos) (some (.Name y py)) b.line X.env=pure (X.env.blockKind == .function && X.env.kindOf y == some .local && py.line == pos.line && !(sc.names.any λ(n,k)=>n == y && (k == .local || k == .cell))):=rfl;cases a:(X.env.blockKind == .function && X.env.kindOf y == some .local && py.line == pos.line && !(sc.names.any λ(n,k)=>n == y && (k == .local || k == .cell)))with
 |false=>
   rw[a]at hs;exact KN o j p v hs hf
 |true=>
   rw[a]at hs
   have d:X.env.scope.names.lookup y=some .local:=by
    simp only[bA]at a;exact beq_iff_eq.mp a.1.1.2
   exact λp0 s Y H D I z=>OL N fr o j d m ok hi c hs (DJ st _) p0 s Y H D I (l Y H _ z)
variable{α:Type}
theorem C4{c:Prop}[Decidable c]{a:Option α}{b:α}(h:(if c then a else none)=some b):c/\a=some b:=by
 split at h
 .exact#[‹_›,h]
 .cases h
theorem C1{x:Str}(h:GZ e=some x):∃p,e= .Name x p:=by cases e<;>cases h;exact#[_,rfl]
theorem E2{l:List α}{a:α}(h:one l=some a):l=[a]:=by
 match l,h with
 |[b],h=>cases h;rfl
theorem Gf{l:List α}{a:α×α}(h:two l=some a):l=[a.1,a.2]:=by
 match l,h with
 |[b,c],h=>cases h;rfl
theorem MA{q:Expr×List Expr×List Keyword×Pos}(h:Tt e=some q):e= .Call q.1 q.2.1 q.2.2.1 q.2.2.2:=by cases e<;>cases h;rfl
theorem CU{a:Expr}(h:ct.DY x e=some a):∃p pos,e= .Call (.Name x p) [a] [] pos/\ct.own x=true:=by
 rintro⟨q,h1,f⟩:Ab h;clear h;rintro⟨y,h2,d⟩:Ab f;clear f;split at d
 case isFalse=>cases d
 rename_i j;rintro⟨g,b,c⟩:j;rw[g]at b h2;rintro⟨p,i⟩:C1 h2;rw[MA h1,i,E2 d,isEmpty_iff.mp c];exact#[p,_,rfl,b]
theorem Kj{a:Expr×Expr}(h:ct.call2 x e=some a):∃p pos,e= .Call (.Name x p) [a.1,a.2] [] pos/\ct.own x=true:=by
 rintro⟨q,h1,f⟩:Ab h;clear h;rintro⟨y,h2,d⟩:Ab f;clear f;split at d
 case isFalse=>cases d
 rename_i j;rintro⟨g,b,c⟩:j;rw[g]at b h2;rintro⟨p,i⟩:C1 h2;rw[MA h1,i,Gf d,isEmpty_iff.mp c];exact#[p,_,rfl,b]
theorem PR{tg it:Expr}{q:Sq×T}(O:TX ct X W)(L:Bb ct X W cf k)(h:XI ct tg it (kE ct it) (Np ct it) (JY ct it)=some q)(h0:Pk W cf k it)(h1:∀as p pos x,it= .Call (.Name x p) as [] pos->∀a∈as,Pk W cf k a):A7 it=true/\∃wi,PI X tg it wi/\Src W q.1 (ev cf q.2) wi:=by
 have two:∀{x:Str} {p pos:Pos} {a b:Expr} {ta tb:T},it= .Call (.Name x p) [a,b] [] pos->Np ct it=some ta->JY ct it=some tb->AR X W cf a ta/\AR X W cf b tb:=λ{x p pos a b ta tb} e c i=>by
  have j:=h1 _ p pos x e;subst e;exact#[j a mS L c,j b (mem_cons_of_mem _ mS) L i]
 unfold XI at h;split at h
 .rename_i a d;rintro⟨ta,c,rfl⟩:AU h;rintro⟨p,pos,rfl,f⟩:CU d;have hs:=h1 _ p pos _ rfl a mS L c;exact#[rfl,_,O.XE f rfl hs.st hs.v,Ir]
 .rename_i a _ d;rintro⟨i,h⟩:C4 h;rintro⟨ta,c,rfl⟩:AU h;rintro⟨p,pos,rfl,f⟩:CU d;have hs:=h1 _ p pos _ rfl a mS L c;exact#[rfl,_,O.dy i f rfl hs.st hs.v,Ir]
 .rename_i a _ _ d;rintro⟨i,h⟩:C4 h;rintro⟨ta,c,h⟩:Ab h;rintro⟨tb,g,rfl⟩:AU h;rintro⟨p,pos,e,f⟩:Kj d;rintro⟨s1,s2⟩:two e c g;subst e;exact#[rfl,_,O.zip i f rfl s1.st s2.st s1.v s2.v,M5]
 .rename_i a _ _ _ d;rintro⟨ta,c,h⟩:Ab h;rintro⟨tb,g,rfl⟩:AU h;rintro⟨p,pos,e,f⟩:Kj d;rintro⟨s1,s2⟩:two e c g;subst e;exact#[rfl,_,O.KL f rfl s1.st s2.st s1.v s2.v,M5]
 .obtain⟨t,l,rfl⟩:=AU h;have hs:=h0 L l;exact#[hs.st,_,O.walk hs.v,Ir]
theorem X8:(ct.block sc).2.length=(ct.block sc).1.N.length:=by
 unfold Ct.block;simp
theorem Sk{b:List Comprehension}(d:∀{ct X},Bb ct X W cf k->TX ct X W)(he:Pk W cf k elt)(n:∀tg it ifs f,(#[tg,it,ifs,f]:Comprehension)∈b->Pk W cf k it/\(∀as p pos x,it= .Call (.Name x p) as [] pos->∀a∈as,Pk W cf k a)/\∀e∈ifs,Pk W cf k e)(L:Bb ct X W cf k)(h:kE ct (.ListComp elt b sc pos)=some t):AR X W cf (.ListComp elt b sc pos) t:=by
 replace h:kG ct sc b (kE (ct.block sc).1 elt)=some t:=h;cases b with
 |nil=>cases h
 |cons c b=>
   rintro⟨tg,it,ifs,f⟩:c;rintro⟨p1,p2,p3⟩:n tg it ifs f mS;rintro⟨g,h1,h⟩:Ab h;rintro⟨q,h2,h⟩:Ab h;rintro⟨cs,r,h⟩:Ab h;rintro⟨e,o,h⟩:Ab h;rintro⟨l,rfl⟩:A3 h;simp only[bA]at l;rintro⟨⟨⟨⟨c0,v⟩,u⟩,j⟩,m⟩:l;cases of_decide_eq_true c0;cases isEmpty_iff.mp v;rintro⟨st,wi,hi,hw⟩:PR (d L) L h2 p1 p2;refine Oo L.K L.calm (L.dC j) hw hi st (of_decide_eq_true u) (λi hi=>?_) λC s H fp=>?_
   .have:=(OR (L.block j (of_decide_eq_true m) 0 X.s₀ X.H₀ []) h1).2 i hi;rw[X8];exact this
   .have L2:=L.block j (of_decide_eq_true m) C s H fp;exact#[(OR L2 h1).1,he L2 o,E5 p3 L2 r]
end
section
variable{k:Nat}{ct:Ct}{t:T}
theorem MC(L:Bb ct X W cf k):∀{xs:List Str} {EM:List Nat},Tw ct xs=some EM->Paired (λx i=>X.N[i]? =some x) xs EM
 |[],_,h=>by cases h;exact .nil
 | x::xs,_,h=>by
   rintro⟨i,h1,h⟩:Ab h;rintro⟨is,h2,rfl⟩:AU h;exact .cons (L.slot h1).1 (MC L h2)
theorem MK{l:List (Str×NameKind)}{f:Str×NameKind->Bool}{k:NameKind}(h:(l.all λy=>y.2 != k || f y)=true):∀z∈l,z.2=k->f z=true:=λz hz e=>by
 have:=all_eq_true.mp h z hz;rw[e]at this;simpa using this
theorem PD(L:Bb ct X W cf k){as:Arguments}{sc:Scope}{EM:List Nat}(h:PF ct.sc as sc=true)(p:Tw ct ((sc.names.filter λq=>q.2 == .free).map (·.1))=some EM):∃y fr,UW X sc as y fr EM:=by
 unfold PF at h;simp only[bA]at h;rintro⟨⟨⟨⟨⟨⟨⟨⟨⟨⟨⟨⟨⟨⟨⟨h1,h2⟩,F⟩,E⟩,A⟩,w⟩,v⟩,u⟩,r⟩,b⟩,n⟩,m⟩,l⟩,j⟩,i⟩,g⟩:h;rintro⟨a1,a2,M,K,J,I,G⟩:as;have b:=of_decide_eq_true b
 obtain⟨ann,ps,rfl⟩:∃ann ps,a2=[⟨JK,ann,ps⟩]:=by
  match a2,b with
  |[⟨a,ann,ps⟩],h=>exact#[ann,ps,by rw[map_cons,map_nil]at h;cases h;rfl]
 simp only[isEmpty_iff,Option.isNone_iff_eq_none]at n m l j i g
 subst_vars
 refine#[JK,(sc.names.filter λq=>q.2 == .free).map (·.1),?_];have o:Nk #[[],[#[JK,ann,ps]],none,[],[],none,[]] sc=JK::(sc.names.filter λq=>q.2 == .free).map (·.1):=rfl
 have all:∀x∈(sc.names.filter λq=>q.2 == .free).map (·.1),∃z∈sc.names,z.2= .free/\z.1=x:=λx f=>by
  rintro⟨z,hz,rfl⟩:mem_map.mp f;rintro⟨d,c⟩:mem_filter.mp hz;exact#[z,d,beq_iff_eq.mp c,rfl]
 refine#[beq_iff_eq.mp h1,by simpa using h2,by simpa using F,λz hz=>by simpa using all_eq_true.mp E z hz,λz hz e=>?_,?_,λz hz e=>#[mem_map.mpr #[z,mem_filter.mpr #[hz,beq_iff_eq.mpr e],rfl],?_],λx f=>?_,of_decide_eq_true v,o,rfl,λ_ _ _ _ _ _=>by kernel_rfl,MC L p]
 .have:=MK A z hz e;simpa using this
 .simpa using u
 .have:=all_eq_true.mp w z hz;rw[e]at this;simp at this;rcases this with q|q
  .exact .inl (L.sc.ay _ q)
  .exact(L.sc.X7 _ q).symm
 .obtain⟨z,hz,e,rfl⟩:=all x f;have:=MK r z hz e;simpa using this
end
section
variable{k:Nat}{ct:Ct}{t:T}
theorem SN{q:Arguments×Expr×Scope×Pos}(h:WL e=some q):e= .Lambda q.1 q.2.1 q.2.2.1 q.2.2.2:=by cases e<;>cases h;rfl
theorem KG{g:C->Option C}(h:special ct x e=some g):∃y p a pos,e= .Call (.Name y p) [a] [] pos:=by
 have key:∀{y:Str},(ct.DY y e).isSome=true->∃y p a pos,e= .Call (.Name y p) [a] [] pos:=λ{y} z=>by
  rintro⟨a,c⟩:Option.isSome_iff_exists.mp z;rintro⟨p,pos,e,_⟩:CU c;exact#[_,p,a,pos,e]
 unfold special at h;split at h
 .rename_i b;simp only[bA]at b;exact key b.2
 .split at h
  .rename_i b;simp only[bA]at b;exact key b.2
  .split at h
   .rename_i b;simp only[bA]at b;exact key b.2
   .cases h
theorem Sl{f:Expr}{args:List Expr}{E:List Keyword}{pos:Pos}(opx:∀{ct X},Bb ct X W cf k->TX ct X W)(J:∀e∈args,Pk W cf k e)(hin:∀y p a pos,.Call (.Name y p) [a] [] pos∈args->Pk W cf k a)(ho:∀o m p,f= .Attribute o m p->Pk W cf k o)(L:Bb ct X W cf k)(h:kE ct (.Call f args E pos)=some t):AR X W cf (.Call f args E pos) t:=by
 have O:=opx L;replace h:(if E.isEmpty then kC ct f args pos (PU ct args) (XJ ct args) (ak ct args) (bQ ct args)else none)=some t:=h;split at h
 case isFalse=>cases h
 rename_i hkw;cases isEmpty_iff.mp hkw;cases f with
 |Name x p=>
   replace h:(if ct.own x && decide (x="isinstance")then(two args).bind λq=>(SS ct q.2).bind λty=>(XJ ct args).map λt=>.Ak ty t
    else match(two args).bind λq=>WL q.2 with
    |some l=>(XJ ct args).bind λa=>WT ct x a l.1 l.2.2.1 l.2.2.2 (ak ct args)
    | none=>match(one args).bind (special ct x)with
      |some f=>(bQ ct args).map λt=>.Ak f t
      |none=>(PU ct args).bind (bP ct x))=some t:=h
   split at h
   .rename_i c;rw[bA]at c;rintro⟨q,h1,h⟩:Ab h;rintro⟨g,h2,h⟩:Ab h;rintro⟨te,b,rfl⟩:AU h;cases Gf h1;rintro⟨y,hy,_⟩:Ab h2;rintro⟨p',hp⟩:C1 hy;rintro⟨r,Z⟩:q;dsimp only at hp h2 J b ⊢;subst hp;have hs:=J r mS L b;exact FY L.K (O.FN c.1 (of_decide_eq_true c.2) h2 hs.st hs.v) (λ_=>rfl) rfl rfl
   .split at h
    .rename_i l hl;rintro⟨q,h1,h2⟩:Ab hl;rintro⟨a,b,h⟩:Ab h;cases Gf h1;rintro⟨r,Z⟩:q;dsimp only at h2 J b h ⊢;cases SN h2;have hs:=J r mS L b;unfold WT at h;split at h
     case isFalse=>cases h
     rename_i c;simp only[bA]at c;rintro⟨I,h4,h⟩:Ab h;rintro⟨ln,h5,h⟩:Ab h;rintro⟨EM,h6,h⟩:Ab h;rintro⟨tb,A,h⟩:Ab h;rintro⟨hlt,rfl⟩:A3 h;rintro⟨y,fr,S⟩:PD L c.1.1 h6;rintro⟨g1,g2,g3⟩:L.glob c.2;rintro⟨a0,M,P,_⟩:L.fns x I h4
     have h7':kE (ct.lam l.1 l.2.2.1) l.2.1=some tb:=by
      replace A:(bO ct r <|> (kE (ct.lam l.1 l.2.2.1) l.2.1 <|> none))=some tb:=A;cases hq:bO ct r with
      |none=>rw[hq]at A;cases e:kE (ct.lam l.1 l.2.2.1) l.2.1<;>rw[e]at A<;>first|exact A|cases A
      |some _=>
        exfalso;cases r with
        |Lambda _ _ _ _=>cases b
        |_=>cases hq
     exact MZ L.K (L.room.mono (Nat.le_succ _)) g1 M g2 P hs (L.lam _ _ h5) S (L.fn c.1.2) h7' (by rw[<-S.n];exact hlt)
    .split at h
     .rename_i _ g G;rintro⟨te,b,rfl⟩:AU h;rintro⟨e0,h1,h2⟩:Ab G;cases E2 h1;rintro⟨y,p',a,pos',rfl⟩:KG h2;replace b:kE ct a=some te:=b;have hs:=hin y p' a pos' mS L b;exact FY L.K (O.eM h2 hs.st hs.v) (λ_=>rfl) rfl rfl
     .obtain ⟨ts,h1,h⟩:=Ab h;have hs:=E5 J L h1;unfold bP at h;split at h
      .rename_i w
       have j:∀{g:Int->Int->Option Int},((x="max"/\g=Pl)\/(x="min"/\g=Ph))->((two ts).map λq=>T.A1 (Aw g) q.1 q.2)=some t->AR X W cf (.Call (.Name x p) args [] pos) t:=λ{g} G h=>by
        rintro⟨q,h2,rfl⟩:AU h;cases Gf h2;cases hs with
        |cons he d=>
          cases d with
          |cons N d=>cases d;exact AR.of L.K (Ai (O.fj w G he.st N.st he.v N.v) λY H Q z=>Jq z) rfl
       split at h
       .rename_i hx;exact j (.inl #[hx,rfl]) h
       .split at h
        .rename_i hx;exact j (.inr #[hx,rfl]) h
        .obtain⟨t1,h2,h⟩:=Ab h;rintro⟨g,b,rfl⟩:AU h;cases E2 h2;cases hs with
         |cons he d=>
           cases d;exact FY L.K (O.fq w b he.st he.v) (λ_=>rfl) rfl rfl
      .split at h
       .rename_i i hi;cases h;exact RE L.K L.fv (L.room.mono (Nat.le_succ _)) (L.pv hi) hs
       .split at h
        .rename_i G;rintro⟨g1,g2,g3⟩:L.glob G;split at h
         .rename_i I h4;cases h;rintro⟨a0,M,P,V⟩:L.fns x I h4;exact Oq L.K V (L.room.mono (Nat.le_succ _)) g1 M g2 hs
         .obtain⟨I,h5,h6⟩:=Ab h;rintro⟨t1,A,rfl⟩:AU h6;cases E2 A;rintro⟨M,a0,P,V⟩:L.cls x I h5;cases hs with
          |cons he d=>cases d;exact Om L.K P V L.room g1 M g2 he
        .cases h
 |Attribute o m ap=>
   replace h:(if Jc args.length ap pos && Uv o then(kE ct o).bind λt=>(PU ct args).bind (bN ct m (GZ o).isSome t)else none)=some t:=h;split at h
   case isFalse=>cases h
   rename_i hm;rw[bA]at hm;rintro⟨hm,hn⟩:hm;rintro⟨to,h1,h⟩:Ab h;rintro⟨ts,h2,h⟩:Ab h;have R:=ho o m ap rfl L h1;have hs:=E5 J L h2
   have u:∀{g:C->C->Option C},((m="get"/\g=Ey)\/(m="index"/\g=Dy))->((one ts).map λt=>T.A1 g to t)=some t->AR X W cf (.Call (.Attribute o m ap) args [] pos) t:=λ{g} G h=>by
    rintro⟨t1,b,rfl⟩:AU h;cases E2 b;cases hs with
    |cons he d=>
      cases d;exact AR.of L.K (Ai (O.eU G hm hn he.st R.v he.v) λY H Q z=>Yw z) rfl
   unfold bN at h;split at h
   .rename_i I hf;split at h
    case isFalse=>cases h
    rename_i hnm;cases h;rintro⟨y,hy⟩:Option.isSome_iff_exists.mp hnm;rintro⟨p,rfl⟩:C1 hy;rintro⟨r,a0,Z,q3⟩:L.NS m I hf;exact Ol L.K L.UA Z r q3 (L.room.mono (Nat.le_succ _)) hm R hs
   split at h
   .rename_i F;exact u (.inl #[F,rfl]) h
   .split at h
    .rename_i F;exact u (.inr #[F,rfl]) h
    .split at h
     .rename_i c;cases h;cases isEmpty_iff.mp c.2;cases hs;exact FY L.K (O.eg c.1 hm hn R.v) (λ_=>rfl) rfl rfl
     .cases h
 |_=>cases h
end
section
variable{k:Nat}
theorem L3{α:Type}[SizeOf α]{a:α}{l:List α}(h:a∈l):sizeOf a < sizeOf l:=List.sizeOf_lt_of_mem h
theorem Xh{ct:Ct}{X:Cx}(L:Bb ct X W cf k)(c:TX ct X W){pos:Pos}(d:AR X W cf a x){ops:List CmpOp}{es:List Expr}{ys:List T}{t:T}(hs:E7 X W cf es ys)(h:Ts x ops ys=some t):AR X W cf (.Compare a ops es pos) t:=by
 unfold Ts at h;split at h
 .cases h;cases hs with
  |cons h1 b=>cases b;exact RB (c.cmp _) (λ_ _ _ z=>Qt z) d h1
 .cases h;cases hs with
  |cons h1 b=>
    cases b with
    |cons h2 b=>
      cases b;exact RC (c.cmp _) (c.cmp _) (λ_ _ _ z=>Qt z) d h1 h2 (Fc h2.st _)
 .cases h
theorem F4(d:∀{ct X},Bb ct X W cf k->TX ct X W):∀(n:Nat) (e:Expr),sizeOf e<=n->Pk W cf k e:=by
 intro n
 induction n with
 |zero=>intro e h;cases e<;>simp at h
 |succ n r =>
   intro e E ct X t L h;have A:∀(es:List Expr),sizeOf es<=n->∀e∈es,Pk W cf k e:=λes hs e he=>r e (by have:=L3 he;lia)
   cases e with
   |Constant c m pos=>exact P7 L h
   |Name x pos=>exact Sj L h
   |Tuple es x1 pos=>
     simp at E;rintro⟨ts,h1,rfl⟩:AU h;exact Rw L.K (E5 (A es (by lia)) L h1)
   |List es pos=>
     simp at E;rintro⟨ts,h1,rfl⟩:AU h;exact Ry L.K (E5 (A es (by lia)) L h1)
   |Dict ks vs pos=>
     replace h:(if ks.isEmpty && vs.isEmpty then some (.Ak (λ_=>some (.Bl true [])) (.cst (.p .AG)))else none)=some t:=h;rintro⟨G,rfl⟩:A3 h;exact AR.of L.K (Ai ((d L).bX G) λY H Q ⟨U,B,R,hA⟩=>D3.new (c:=.Bl true []) hA R.tb) rfl
   |BinOp a op b pos=>
     simp at E;rintro⟨g,h1,h⟩:Ab h;rintro⟨x,h2,h⟩:Ab h;rintro⟨y,I,rfl⟩:AU h;exact RD L.K ((d L).bin op g h1) (r a (by lia) L h2) (r b (by lia) L I)
   |UnaryOp op a pos=>
     simp at E;rintro⟨x,h1,h⟩:Ab h;have hs:=r a (by lia) L h1;cases op with
     |Not=>cases h;exact Rx hs
     |USub=>cases h;exact Vs L.K (d L).neg (λ_=>rfl) hs
     |_=>cases h
   |BoolOp op es pos=>
     simp at E;rintro⟨Z,V⟩:UE (pos:=pos) L (A es (by lia)) (show kB ct op es=some t from h);exact AR.Z8 Z V.pt
   |IfExp c a b pos=>
     simp at E;rintro⟨z,h0,h⟩:Ab h;rintro⟨x,h1,h⟩:Ab h;rintro⟨y,h2,rfl⟩:AU h;exact Rz L.K (r c (by lia) L h0) (r a (by lia) L h1) (r b (by lia) L h2)
   |Compare a ops es pos=>
     simp at E;rintro⟨x,h0,h⟩:Ab h;rintro⟨ys,h1,h⟩:Ab h;have P:=r a (by lia) L h0;have hs:=E5 (A es (by lia)) L h1;replace h:Ts x ops ys=some t:=h;clear h1 h0;exact Xh L (d L) P hs h
   |Attribute o m pos=>
     simp at E;replace h:(if(GZ o).isSome then(kE ct o).bind λx=>(ct.fld.idxOf? m).map λj=>.Ak (DB j) x else none)=some t:=h;split at h
     case isFalse=>cases h
     rename_i N;rintro⟨y,hy⟩:Option.isSome_iff_exists.mp N;rintro⟨p,rfl⟩:C1 hy;rintro⟨x,h1,h⟩:Ab h;rintro⟨j,h2,rfl⟩:AU h;rintro⟨f1,f2,f3,f4⟩:L.fld;have S:=Cp h2;exact RA L.K (f1▸f2) (f1▸S) L.UA (f4 m (mem_of_getElem? S)) (r _ (by lia) L h1)
   |Subscript v i pos=>
     simp at E;rintro⟨x,h0,h⟩:Ab h;have F:=r v (by lia) L h0;replace h:(if IL i then(kI ct i).bind λq=>di x q.1 q.2 else(kE ct i).map λy=>.A1 Ae x y)=some t:=h;split at h
     .rename_i M;rintro⟨q,h1,hq⟩:Ab h;clear h;cases i with
      |Slice lo hi st sp=>
        simp at E;replace h1:(if st.isNone then(kO ct lo).bind λl=>(kO ct hi).map λh=>(l,h)else none)=some q:=h1;split at h1
        case isFalse=>cases h1
        rename_i J;cases Option.isNone_iff_eq_none.mp J;rintro⟨l,h2,h1⟩:Ab h1;rintro⟨u,I,rfl⟩:AU h1
        have po:∀{o:Option Expr} {w:Option T},sizeOf o<=n->kO ct o=some w->(w=none/\o=none)\/∃e t,o=some e/\w=some t/\AR X W cf e t:=λ{o w} hs G=>by
         cases o with
         |none=>cases G;exact .inl #[rfl,rfl]
         |some e=>rintro⟨t,ht,rfl⟩:AU G;simp at hs;exact .inr #[e,t,rfl,rfl,r e (by lia) L ht]
        have sl:=(d L).sl;rcases po (by lia) h2 with⟨rfl,rfl⟩|⟨e1,t1,rfl,rfl,s1⟩
        .rcases po (by lia) I with⟨rfl,rfl⟩|⟨e2,t2,rfl,rfl,s2⟩
         .cases hq
         .cases hq;exact AR.of L.K (Ai (Gu sl F.v Md (G0 s2.v)) λY H Q z=>Ys z) rfl
        .rcases po (by lia) I with⟨rfl,rfl⟩|⟨e2,t2,rfl,rfl,s2⟩
         .cases hq;exact AR.of L.K (Ai (Gu sl F.v (G0 s1.v) Md) λY H Q z=>Yt z) rfl
         .cases hq;exact AR.of L.K (Ai (Gu sl F.v (G0 s1.v) (G0 s2.v)) λY H Q z=>Yr z) rfl
      |_=>cases M
     .obtain⟨y,h1,rfl⟩:=AU h;have hi:=r i (by lia) L h1;exact AR.of L.K (Ai (Z0 (d L).ix F.v hi.v (RZ hi.st)) λY H Q z=>Jq z) rfl
   |ListComp elt gs sc pos=>
     simp at E;refine Sk d (r elt (by lia)) (λtg it ifs ia hm=>?_) L h;have:=L3 hm;simp at this;refine#[r it (by lia),λas p pos x e a P=>?_,A ifs (by lia)];subst e;simp at this;exact A as (by lia) a P
   |Call f args kws pos=>
     simp at E;refine Sl d (A args (by lia)) (λy p a pos hm=>?_) (λo m p e=>?_) L h
     .have:=L3 hm;simp at this;exact λ{_ _ _}=>r a (by lia)
     .subst e;simp at E;exact r o (by lia)
   |_=>cases h
end
def rS(W:Wd)(cf:CF)(s:S):TS:=tS W (ZQ s) (Nv.exec cf As s)
def de(W:Wd)(cf:CF)(ss:List S):TS:=tS W (CD ss) (Nv.execs cf As ss)
def dG(W:Wd)(cf:CF)(k:Nat)(s:Stmt):Prop:=∀{ct:Ct} {X:Cx} {t:S},Bb ct X W cf k->kS ct s=some t->PS X s (rS W cf t)
def ZW(W:Wd)(cf:CF)(k:Nat)(ss:List Stmt):Prop:=∀{ct:Ct} {X:Cx} {ts:List S},Bb ct X W cf k->SO ct ss=some ts->NO X ss (de W cf ts)
structure dD(ct:Ct)(X:Cx)(W:Wd)(cf:CF)(k:Nat):Prop where
 tup:∀{es:List Expr} {n:Nat} {p pos:Pos} {e:Expr} {t:T} {is:List Nat},Cb e=false->AR X W cf e t->JX ct es=some is->PS X (.Assign [.Tuple es n p] e pos) (rS W cf (.asg (.tup is) t))
 bf:∀{x:Str} {i j:Nat} {e:Expr} {p pos:Pos},ct.Cy x=some i->PM ct e=some j->PS X (.Assign [.Name x p] e pos) (rS W cf (.pop (some i) j))
 mt:∀{e:Expr} {pos:Pos} {t:S},BF e=false->PQ ct e=some t->PS X (.Expr e pos) (rS W cf t)
 put:∀{y:Str} {i j:Nat} {e ie:Expr} {p q pos:Pos} {t u:T},ct.slot y=some j->IL ie=false->AR X W cf e t->AR X W cf ie u->PS X (.Assign [.Subscript (.Name y p) ie q] e pos) (rS W cf (.Ce j false (Dt λc x k=>Dq c k x) [t,u]))
 bc:∀{y f:Str} {j n:Nat} {e ie:Expr} {p q r pos:Pos} {t u:T},ct.slot y=some j->ct.fld.idxOf? f=some n->IL ie=false->AR X W cf e t->AR X W cf ie u->PS X (.Assign [.Subscript (.Attribute (.Name y p) f r) ie q] e pos) (rS W cf (.Ce j false (Dt (Bz n)) [t,u]))
 aQ:∀{y f:Str} {j n:Nat} {e:Expr} {p q pos:Pos} {t:T},ct.slot y=some j->ct.fld.idxOf? f=some n->AR X W cf e t->PS X (.Assign [.Attribute (.Name y p) f q] e pos) (rS W cf (.Ce j false (EL (FI n)) [t]))
 cm:∀{e:Expr} {pos:Pos} {t:S},BF e=false->Zv ct e=some t->PS X (.Expr e pos) (rS W cf t)
section
variable{k:Nat}{ct:Ct}
theorem TL{q:Expr×Str×Pos}(h:QH e=some q):e= .Attribute q.1 q.2.1 q.2.2:=by cases e<;>cases h;rfl
theorem Ek{e:Stmt}{t t':TS}(h:PS X e t)(k:∀D Y H,Y.length=X.N.length->t' D Y H->t D Y H):PS X e t':=λp0 s Y H D I z=>h p0 s Y H D I (k D Y H I.len z)
theorem Mb{ss:List Stmt}(b:∀s∈ss,dG W cf k s):ZW W cf k ss:=by
 induction ss with
 |nil=>
   intro ct X ts L h;cases h;exact Mc RU λD Y H z=>YJ z
 |cons s ss a=>
   intro ct X ts L h;rintro⟨us,c,rfl⟩:AU h
   have hs:PS X s (rS W cf ((kS ct s).getD .no)):=by
    cases e:kS ct s with
    |some t=>exact b s mS L e
    |none=>exact λp0 s Y H D I ⟨_,_,_,_,_,z⟩=>z.elim
   exact Mc (OH hs (a (λe he=>b e (mem_cons_of_mem _ he)) L c)) λD Y H z=>VG z
theorem Gz{i:Nat}(h:ct.name x=some (.var i)):ct.slot x=some i:=by
 unfold Ct.name at h;split at h
 .rename_i e;cases h;exact e
 .obtain⟨_,z⟩:=C4 h;rcases or_some z with z|z<;>(rintro⟨c,_,z⟩:AU z;cases z)
theorem VA{D:Ends}{Y:L2.St}{H:Hp}(h:tS W [] (λU=>.ret (.p .AG)) D Y H):Ub D Y H:=by
 rintro⟨Hin,A0,Bo,U,S,a⟩:h;exact a .AG H #[rfl,S.tb,S.F5,S.FQ,S.kp]
theorem SQ(O:TX ct X W)(L:Bb ct X W cf k){tg:Expr}{ks:Sq}{i:Nat}(h:XI ct tg e (kE ct e) (Np ct e) (JY ct e)=some (ks,.var i))(j:(GZ (ct.src e)).isSome=true):A7 e=true/\(∀o kvs,ks (.Bl o kvs)=none)/\(∀o fs,ks (.obj o fs)=none)/\PI X tg e (wI W ks (ES i)):=by
 rintro⟨x,b⟩:Option.isSome_iff_exists.mp j;unfold Ct.src at b;unfold XI at h;split at h
 .rename_i a d;rintro⟨p,pos,rfl,g⟩:CU d;rw[d]at b;rintro⟨q,rfl⟩:C1 b;rintro⟨t,f,h⟩:AU h;cases h;exact#[rfl,λ_ _=>rfl,λ_ _=>rfl,O.XE g rfl rfl (L.pv (Gz f))]
 .rename_i a c d;split at h
  case isFalse=>cases h
  rename_i l;rintro⟨p,pos,rfl,g⟩:CU d;rw[c,d]at b;rintro⟨q,rfl⟩:C1 b;rintro⟨t,f,h⟩:AU h;cases h;exact#[rfl,λ_ _=>rfl,λ_ _=>rfl,O.dy l g rfl rfl (L.pv (Gz f))]
 .obtain⟨_,h⟩:=C4 h;rintro⟨ta,_,h⟩:Ab h;rintro⟨tb,_,h⟩:AU h;cases h
 .obtain⟨ta,_,h⟩:=Ab h;rintro⟨tb,_,h⟩:AU h;cases h
 .rename_i c d _ _;rw[c,d]at b;rintro⟨q,rfl⟩:C1 b;rintro⟨t,f,h⟩:AU h;cases h;exact#[rfl,λ_ _=>rfl,λ_ _=>rfl,O.walk (L.pv (Gz f))]
theorem SF{i:Nat}(h:Fq t=some i):t= .var i:=by
 unfold Fq at h;split at h
 .cases h;rfl
 .cases h
theorem JB{a:Stmt}{l:List Stmt}(h:a∈l):sizeOf a < sizeOf l:=List.sizeOf_lt_of_mem h
theorem WS(A:∀{ct X},Bb ct X W cf k->TX ct X W)(stx:∀{ct X},Bb ct X W cf k->dD ct X W cf k):∀(n:Nat) (s:Stmt),sizeOf s<=n->dG W cf k s:=by
 intro n
 induction n with
 |zero=>intro e h;cases e<;>simp at h
 |succ n T=>
   intro s J ct X t L h;have pk:∀e:Expr,Pk W cf k e:=λe=>F4 A (sizeOf e) e (Nat.le_refl _)
   have r:∀(ss:List Stmt),sizeOf ss<=n->ZW W cf k ss:=λss hs=>Mb λe he=>T e (by have:=JB he;lia)
   cases s with
   |Assign R e pos=>
     rintro⟨tg,h1,hq⟩:Ab h;clear h;cases E2 h1;cases tg with
     |Name x p=>
       rintro⟨i,h2,d⟩:Ab (show((ct.Cy x).bind λi=>match PM ct e with
        |some j=>some (.pop (some i) j)
        |none=>(kE ct e).map λt=>.asg (.nm i) t)=some t from hq)
       clear hq;cases ep:PM ct e with
       |some j=>rw[ep]at d;cases d;exact(stx L).bf h2 ep
       |none=>
         rw[ep]at d;rintro⟨u,m,rfl⟩:AU d;rintro⟨t1,t2,t3⟩:L.Cy h2;exact Ek ((pk e L m).a i x p pos L.nd t1 t2 t3) λD Y H hl z=>YI (by rw[hl];exact(List.getElem?_eq_some_iff.mp t1).1) z
     |Tuple es n p=>
       replace hq:(if Cb e then none else(kE ct e).bind λt=>(JX ct es).map λis=>.asg (.tup is) t)=some t:=hq;cases l:Cb e with
       |true=>rw[l]at hq;cases hq
       |false=>
         rw[l]at hq;rintro⟨u,h2,d⟩:Ab hq;rintro⟨is,m,rfl⟩:AU d;exact(stx L).tup l (pk e L h2) m
     |Subscript v i p=>
       rintro⟨u,m,d⟩:Ab (show((kE ct e).bind λt=>if IL i then none else(kE ct i).bind λk=>match QH v with
        |some q=>((GZ q.1).bind ct.slot).bind λj=>(ct.fld.idxOf? q.2.1).map λf=>.Ce j false (Dt (Bz f)) [t,k]
        |none=>((GZ v).bind ct.slot).map λj=>.Ce j false (Dt λc x k=>Dq c k x) [t,k])=some t from hq)
       cases l:IL i with
       |true=>rw[l]at d;cases d
       |false=>
         rw[l]at d;rintro⟨w,G,d⟩:Ab d;cases M:QH v with
         |none=>
           rw[M]at d;rintro⟨j,h2,rfl⟩:AU d;rintro⟨y,F,E⟩:Ab h2;rintro⟨q,rfl⟩:C1 F;exact(stx L).put (i:=0) E l (pk e L m) (pk i L G)
         |some q=>
           rw[M]at d;rintro⟨j,h2,d⟩:Ab d;rintro⟨f,Q,rfl⟩:AU d;rintro⟨y,F,E⟩:Ab h2;cases TL M;rintro⟨p',N⟩:C1 F;rintro⟨q1,Z,V⟩:q;dsimp only at N Q ⊢;subst N;exact(stx L).bc E Q l (pk e L m) (pk i L G)
     |Attribute o f p=>
       rintro⟨j,h2,d⟩:Ab (show(((GZ o).bind ct.slot).bind λj=>(ct.fld.idxOf? f).bind λn=>(kE ct e).map λt=>.Ce j false (EL (FI n)) [t])=some t from hq);rintro⟨n,m,d⟩:Ab d;rintro⟨u,G,rfl⟩:AU d;rintro⟨y,F,E⟩:Ab h2;rintro⟨q,rfl⟩:C1 F;exact(stx L).aQ E m (pk e L G)
     |_=>cases hq
   |Expr e pos=>
     replace h:(if BF e then none else match PQ ct e with
      |some s=>some s
      | none=>match Zv ct e with
        |some s=>some s
        |none=>(kE ct e).map .expr)=some t:=h
     cases l:BF e with
     |true=>rw[l]at h;cases h
     |false=>
       rw[l]at h;cases em:PQ ct e with
       |some s=>rw[em]at h;cases h;exact(stx L).mt l em
       |none=>
         rw[em]at h;cases K:Zv ct e with
         |some s=>rw[K]at h;cases h;exact(stx L).cm l K
         |none=>
         rw[K]at h;rintro⟨u,h1,rfl⟩:AU h;exact C0 (El (pk e L h1).v (Jv l _ _ _)) λD Y H z=>VF z
   |Return o pos=>
     cases o with
     |none=>
       cases h;exact C0 RW λD Y H z=>VA z
     |some e=>
       replace h:(match(GZ e).bind ct.slot with
        |some i=>some (.CG i)
        |none=>(kE ct e).map .ret)=some t:=h
       cases em:(GZ e).bind ct.slot with
       |some i=>
         rw[em]at h;cases h;rintro⟨y,F,E⟩:Ab em;rintro⟨q,rfl⟩:C1 F;exact C0 (OJ (L.pv E)) λD Y H z=>Vz z
       |none=>
         rw[em]at h;rintro⟨u,h1,rfl⟩:AU h;exact C0 (OJ (pk e L h1).v) λD Y H z=>Uj z
   |If c a b pos=>
     simp at J;rintro⟨u,h1,h⟩:Ab h;rintro⟨x,h2,h⟩:Ab h;rintro⟨y,m,rfl⟩:AU h;exact C0 (YW (pk c L h1).b (r a (by lia) L h2) (r b (by lia) L m)) λD Y H z=>aR z
   |While c b o pos=>
     simp at J;rintro⟨I,hq⟩:C4 h;rintro⟨u,h1,hq⟩:Ab hq;rintro⟨x,h2,rfl⟩:AU hq;cases isEmpty_iff.mp I;exact C0 (OI L.po (pk c L h1).b (r b (by lia) L h2)) λD Y H z=>RJ z
   |For tg it b o pos=>
     simp at J;rintro⟨I,hq⟩:C4 h;clear h;rintro⟨g,h1,hq⟩:Ab hq;rintro⟨q,h2,hq⟩:Ab hq;rintro⟨x,m,hq⟩:Ab hq;rintro⟨hm,rfl⟩:A3 hq;cases isEmpty_iff.mp I;rintro⟨g1,g2⟩:OR L h1;rintro⟨ks,u⟩:q;cases el:Fq u with
     |some i=>
       cases SF el;rintro⟨st,hd,hd2,hi⟩:SQ (A L) L h2 (by simpa[Zh,Fq]using hm);exact Ek (OK L.po L.calm hi g1 (r b (by lia) L m) (DJ st _)) λD Y H hl z=>VE hd hd2 (λi hi=>by rw[hl];exact g2 i hi) z
     |none=>
       rintro⟨st,wi,hi,hw⟩:PR (A L) L h2 (pk it) λas p pos x _ a _=>pk a
       refine Ek (OK L.po L.calm hi g1 (r b (by lia) L m) (DJ st _)) λD Y H hl z=>YK hw (λi hi=>by rw[hl];exact g2 i hi) ?_
       rintro⟨Hin,A0,Bo,U,S,P⟩:z;refine#[Hin,A0,Bo,U,S,?_];simp only[Nv.exec,el]at P;exact P
   |_=>cases h
end
section
variable{k:Nat}{ct:Ct}
def OE(K:Frag):V->List V->Hp->VK->Prop:=λx vs H Q=>∃l b xs zs,x= .ref l/\vs=[.ref b]/\H l=some (.lst xs)/\D2 K H b zs/\xs.length+zs.length<=sizeLine/\Q .AG (upd H l (.lst (xs++zs)))
theorem Sy:Xx X "list.extend" (OE X.K):=by
 intro p0 s Y H x vs v us Q I j m h;rintro⟨l,b,xs,zs,rfl,rfl,i,y,hz,q⟩:h;cases j;rintro⟨u,rfl,o⟩:m.one;cases o;rintro⟨z,its,n,r,hl,e⟩:I.Pq i;rintro⟨a,f,t,p⟩:I.tuple y;have w:=f.length;rintro⟨⟨cl,Bl,dat,sl⟩,e2,d,g,d2⟩:t;have d:cl= .type "tuple":=d;have d2:dat= .seq a.toArray g:=d2;subst d d2;have hsz:its.toArray.size+a.toArray.size<=sizeLine:=by rw[size_toArray,size_toArray];lia
 have c:¬(!its.toArray.isEmpty && Builtin.List.listTooLong (its.toArray.size + a.toArray.size))=true:=by
  rw[JL hsz,Bool.and_false];exact Bool.false_ne_true
 refine call_meets F.slot_list_extend #[_,e,rfl] F.entry_list_extend (F.args_list_extend_2 _ _)
  (T9 l its.toArray n b a.toArray g Bl sl c (by rw[size_toArray];lia) (by lia)) #[e,e2,?_]
 refine#[.AG,_,I.Pr (its':=its++a) i e (by simp) (r.append f) ?_,rfl,q];rw[lA]
 lia
theorem WB:Xx X "list.extend" (λx vs H Q=>Iw x vs H Q\/OE X.K x vs H Q):=λp0 s Y H x vs v us Q I a b h=>h.elim (Nd p0 s Y H x vs v us Q I a b) (Sy p0 s Y H x vs v us Q I a b)
theorem Po(hK:W.K=X.K):∀x vs H Q,Gq W (EL IY) x vs H Q->Iw x vs H Q\/OE X.K x vs H Q:=by
 rintro x vs H Q ⟨own,bor,c,cs,c',h1,h2,e,q⟩
 rintro⟨a,rfl,e⟩:P4 e;rintro⟨ps,ep,e⟩:Ab e;rintro⟨qs,eq,e⟩:Ab e;rintro⟨ws,i,rfl⟩:AU e;rintro⟨hl,rfl⟩:A3 (show(if(ps++qs).length<=big then some (ps++qs)else none)=some ws from i);cases G1 ep;rintro⟨v,rfl,r⟩:Um h2;rintro⟨l,ws,rfl,k1,k2,g⟩:EF h1 q;have l1:=Paired.length k2;have bl:=Bw;rw[lA]at hl;rcases or_some eq with eq|eq
 .obtain⟨b,us,rfl,f,d⟩:=Bn eq r;have l2:=Paired.length d;exact .inl #[l,b,ws,us,rfl,rfl,k1,f,by lia,g _ _ (Pd.append k2 d)]
 .obtain⟨x,ex,j⟩:=Ab eq;cases C.BO ex;cases P.Bs j;rintro⟨b,us,rfl,f,d⟩:CH r;have l2:=Paired.length d;exact .inr #[l,b,ws,us,rfl,rfl,k1,by rw[<-hK];exact f,by lia,g _ _ (Pd.append k2 d)]
theorem RX{q:P×C}(h:JI c=some q):∃ps,c= .lst true ps/\ps.getLast? =some q.1/\q.2= .lst true ps.dropLast:=by
 cases c with
 |lst o ps=>
   cases o with
   |true=>rintro⟨x,h1,rfl⟩:AU (show(ps.getLast?.map λx=>(x,C.lst true ps.dropLast))=some q from h);exact#[ps,rfl,h1,rfl]
   |false=>cases h
 |_=>cases h
theorem Pd.last{ps:List P}{vs:List V}(h:Cw W H ps vs){x:P}(e:ps.getLast? =some x):∃v,vs[vs.length - 1]? =some v/\A5 W H x v/\Cw W H ps.dropLast vs.dropLast:=by
 induction h with
 |nil=>cases e
 |cons h1 h2 a=>
   rename_i p v ps vs;cases h2 with
   |nil=>cases e;exact#[v,rfl,h1,.nil]
   |cons d c=>
     rintro⟨w,e1,e2,b⟩:a (by simpa using e);exact#[w,by simpa using e1,e2,.cons h1 b]
theorem U7{U:Env}{i:Nat}{q:P×C}(S:Aq W Hin A0 Bo H U Y)(h:(A8 U i).bind JI=some q):∃a ws v,Y[i]? =some (some (.ref a))/\H a=some (.lst ws)/\ws[ws.length - 1]? =some v/\Aq W Hin A0 Bo (upd H a (.lst ws.dropLast)) (U.set i (some q.2)) Y/\A5 W (upd H a (.lst ws.dropLast)) q.1 v:=by
 rintro⟨c,d,g⟩:Ab h;rintro⟨ps,rfl,h1,h2⟩:RX g;rintro⟨O,e⟩:S.env;rintro⟨x,b,f⟩:e i _ d;rintro⟨a,ws,rfl,k1,k2⟩:f;rintro⟨v,e1,e2,j⟩:Pd.last k2 h1;have kp:=BR (u':=.lst ws.dropLast) k1.1 EX.1 EX.2.1;refine#[a,ws,v,b,k1.1,e1,S.chg e d b k1.2 k1.1 EX ?_,e2.mono kp];rw[h2];exact#[a,ws.dropLast,rfl,#[A6,k1.2],j.mono kp]
theorem VD{i:Nat}(K:Frag)(h:tS W [] (Nv.exec cf As (.pop none i)) D Y H):Js (Vl K "list" VN (ES i)) D Y H:=by
 rintro⟨Hin,A0,Bo,U,S,b⟩:h
 replace b:Bh W Hin A0 Bo [] D Y (match(A8 U i).bind JI with
  |some q=>.nx (U.set i (some q.2))
  |none=>.stuck):=b
 cases e:(A8 U i).bind JI with
 |none=>rw[e]at b;exact b.elim
 |some q=>
   rw[e]at b;rintro⟨a,ws,v,f,c,d,g,r⟩:U7 S e;exact#[_,f,.inl #[rfl,ws,DP.of c],a,ws,v,rfl,rfl,c,d,b _ _ g (AL.refl _ _)]
theorem VC{i j:Nat}(K:Frag)(l:j < Y.length)(h:tS W [j] (Nv.exec cf As (.pop (some j) i)) D Y H):Ju (Vl K "list" VN (ES i)) (Ez j) D Y H:=by
 rintro⟨Hin,A0,Bo,U,S,b⟩:h
 replace b:Bh W Hin A0 Bo [j] D Y (match(A8 U i).bind JI with
  |some q=>if j=i then .stuck else .nx ((U.set i (some q.2)).set j (some (.p q.1)))
  |none=>.stuck):=b
 cases e:(A8 U i).bind JI with
 |none=>rw[e]at b;exact b.elim
 |some q=>
   rw[e]at b;dsimp only at b;split at b
   .exact b.elim
   rintro⟨a,ws,v,g,c,f,d,r⟩:U7 S e;exact#[_,g,.inl #[rfl,ws,DP.of c],a,ws,v,rfl,rfl,c,f,b _ _ (d.set (B:=λ_=>True) (Ext.refl _) d.tb l rfl r) (AL.set mS)]
end
section
variable{k:Nat}{ct:Ct}
theorem IF{q:Nat×Str×List Expr}(h:Mo ct e=some q):∃x p ap pos,e= .Call (.Attribute (.Name x p) q.2.1 ap) q.2.2 [] pos/\Jc q.2.2.length ap pos=true/\ct.slot x=some q.1:=by
 rintro⟨c,h1,h⟩:Ab h;rintro⟨a,h2,h⟩:Ab h;rintro⟨x,g,h⟩:Ab h;rintro⟨b,h⟩:C4 h;rintro⟨i,d,rfl⟩:AU h;rw[bA]at b;cases e with
 |Call f as kw pos=>
   cases h1;cases f with
   |Attribute o m ap=>
     cases h2;rintro⟨p,rfl⟩:C1 g;cases isEmpty_iff.mp b.1;exact#[x,p,ap,pos,rfl,b.2,d]
   |_=>cases h2
 |_=>cases h1
variable{ap pos:Pos}
theorem CO{n:Nat}(h:Jc n ap pos=true):(ap.endLine == pos.line)=true:=by
 unfold Jc at h;rw[bA]at h;exact h.1
theorem ZK(h:A7 a=true):((backTo pos (starEach [a] X.env)).all (λx=>!x.1) && (backToKw pos (keywordEach [] X.env)).all (λx=>x.1.isSome)
 && decide (([a]:List Expr).length+([]:List Keyword).length+(if([]:List Keyword).isEmpty then 0 else 1) < 30))=true:=by
 rw[A2 h [] X.env];rfl
variable{cp:Pos}
theorem Oh(L:Bb ct X W cf k){i:Nat}(hs:ct.slot x=some i)(hm:Jc 0 ap cp=true):PS X (.Expr (.Call (.Attribute (.Name x p) "pop" ap) [] [] cp) pos) (rS W cf (.pop none i)):=
 C0 (El (KS PySem.F.plainAttrs_list PySem.F.slot_list_pop PySem.F.type_list_pop Pc (L.pv hs) rfl (CO hm))) λD Y H z=>VD X.K z
theorem Og(L:Bb ct X W cf k){i j:Nat}(a:ct.Cy x=some i)(h:PM ct e=some j):PS X (.Assign [.Name x p] e pos) (rS W cf (.pop (some i) j)):=by
 rintro⟨q,h1,h2⟩:Ab h;rintro⟨⟨e1,e2⟩,rfl⟩:A3 h2;rintro⟨y,b,ap,cp,rfl,hm,hs⟩:IF h1;rw[isEmpty_iff.mp e2]at hm ⊢;rw[e1];rintro⟨t1,t2,t3⟩:L.Cy a;exact Ek (KN L.nd t1 t2 (KS PySem.F.plainAttrs_list PySem.F.slot_list_pop PySem.F.type_list_pop Pc (L.pv hs) rfl (CO hm)) rfl t3) λD Y H hl z=>VC X.K (by rw[hl];exact(List.getElem?_eq_some_iff.mp t1).1) z
theorem Oi(L:Bb ct X W cf k){x m:Str}{i:Nat}{f:C->List C->Option C}{id:String}{r:V->List V->Hp->VK->Prop}(slot:Slot "list" m id)(b:typeOf (.builtin id)=pure (.type "method_descriptor"))(e:Xx X id r)(d:∀x vs H Q,Gq W f x vs H Q->r x vs H Q)
 (hs:ct.slot x=some i)(hm:Jc 1 ap cp=true)(c:AR X W cf a t):PS X (.Expr (.Call (.Attribute (.Name x p) m ap) [a] [] cp) pos) (rS W cf (.Ce i true f [t])):=
 C0 (El (Uu PySem.F.plainAttrs_list slot b e (L.pv hs) (OZ (.cons c .nil)) rfl (ZK c.st) (CO hm) (A2 c.st [] X.env))) λD Y H z=>Uk X.K d z
theorem X0(l:List Value)(k:Nat)(y:Value):(l.toArray.extract 0 k).push y++l.toArray.extract k=(l.take k++y::l.drop k).toArray:=by
 apply Array.toList_inj.mp;simp;exact take_of_length_le (by simp)
def YU:V->List V->Hp->VK->Prop:=λx vs H Q=>∃l xs i y,x= .ref l/\vs=[.int i,y]/\H l=some (.lst xs)/\0<=i/\i<=xs.length/\xs.length < big/\Q .AG (upd H l (.lst (xs.take i.toNat++y::xs.drop i.toNat)))
theorem Nc:Xx X "list.insert" YU:=by
 intro p0 s Y H x vs v us Q I c d h;rintro⟨l,xs,i,y,rfl,rfl,b,h0,hi,hz,q⟩:h;cases c;rintro⟨u,w,rfl,⟨t,rfl⟩,a⟩:d.two;rintro⟨z,its,n,r,hl,e⟩:I.Pq b;have g:=Bw;have f:big=100000:=rfl;have hf:Builtin.List.listFitsIndex i=true:=fitsIndex_both (by lia) (by lia);refine call_meets F.slot_list_insert #[_,e,rfl] F.entry_list_insert (F.args_list_insert_3 _ _ _) (AutoSeq1.list_insert_list_int_val_1 l its.toArray n i t w (by simp[hf]) (by rw[size_toArray];lia)) #[e,?_];refine#[.AG,_,I.Pr (its':=its.take i.toNat++w::its.drop i.toNat) b e ?_ ((r.take _).append (.cons a (r.drop _))) ?_,rfl,q]
 .show(its.toArray.extract 0 (if i < 0 then(i+(its.toArray.size:Int)).toNat else min i.toNat its.toArray.size)).push w++its.toArray.extract (if i < 0 then(i+(its.toArray.size:Int)).toNat else min i.toNat its.toArray.size)=_;rw[iN (by lia),size_toArray,show min i.toNat its.length=i.toNat by lia];exact X0 its _ w
 .rw[lA,lC,length_take,length_drop]
  lia
theorem Pn:∀x vs H Q,Gq W (Dt T3) x vs H Q->YU x vs H Q:=by
 rintro x vs H Q ⟨own,bor,c,cs,c',h1,h2,e,q⟩
 rintro⟨a,b,rfl,e⟩:IC e;rintro⟨ps,ep,e⟩:Ab e;rintro⟨i,m,e⟩:Ab e;rintro⟨y,j,e⟩:Ab e;rintro⟨hl,rfl⟩:A3 e;cases G1 ep;cases C.AW m;cases C.BO j;rintro⟨v,u,rfl,f,d⟩:OC h2;cases AZ f;rintro⟨l,ws,rfl,k1,k2,g⟩:EF h1 q;have:=Paired.length k2;exact#[l,ws,i,u,rfl,rfl,k1,hl.1,by lia,by lia,g _ _ (Pd.insert (GY d) _ k2)]
theorem bW(h:A7 a=true)(h2:A7 b=true):((backTo pos (starEach [a,b] X.env)).all (λx=>!x.1) && (backToKw pos (keywordEach [] X.env)).all (λx=>x.1.isSome)
 && decide (([a,b]:List Expr).length+([]:List Keyword).length+(if([]:List Keyword).isEmpty then 0 else 1) < 30))=true:=by
 rw[A2 h [b] X.env,A2 h2 [] X.env];rfl
theorem Rq(L:Bb ct X W cf k){i:Nat}(hs:ct.slot x=some i)(hm:Jc 2 ap cp=true)(d:AR X W cf a t)(c:AR X W cf b u):PS X (.Expr (.Call (.Attribute (.Name x p) "insert" ap) [a,b] [] cp) pos) (rS W cf (.Ce i true (Dt T3) [t,u])):=
 C0 (El (Uu PySem.F.plainAttrs_list PySem.F.slot_list_insert PySem.F.type_list_insert Nc (L.pv hs) (OZ (.cons d (.cons c .nil))) rfl (bW d.st c.st) (CO hm) (A2 d.st [b] X.env) (by rw[A2 c.st [] X.env];rfl))) λD Y H z=>Uk X.K Pn z
theorem Vp(b:∀{ct X},Bb ct X W cf k->TX ct X W)(L:Bb ct X W cf k){t:S}(h:PQ ct e=some t):PS X (.Expr e pos) (rS W cf t):=by
 rintro⟨q,h1,h2⟩:Ab h;clear h;rintro⟨y,p,ap,cp,rfl,hm,hs⟩:IF h1;clear h1;rintro⟨i,m,args⟩:q;dsimp only at h2 hm hs ⊢;split at h2
 .rename_i j;cases h2;rintro⟨rfl,e2⟩:j;cases isEmpty_iff.mp e2;exact Oh L hs hm
 split at h2
 .rename_i j;rintro⟨g,c,h2⟩:Ab h2;rintro⟨t1,n,h2⟩:Ab h2;rintro⟨t2,l,rfl⟩:AU h2;cases Gf c;subst j;exact Rq L hs hm (F4 b (sizeOf g.1) g.1 (Nat.le_refl _) L n) (F4 b (sizeOf g.2) g.2 (Nat.le_refl _) L l)
 .obtain⟨f,c,h2⟩:=Ab h2;rintro⟨a,n,h2⟩:Ab h2;rintro⟨u,l,rfl⟩:AU h2;cases E2 n;have d:=F4 b (sizeOf a) a (Nat.le_refl _) L l;unfold Zl at c;split at c
  .rename_i o;subst o;cases c;exact Oi L PySem.F.slot_list_append PySem.F.type_list_append Nf Pp hs hm d
  .obtain⟨rfl,rfl⟩:=A3 c;exact Oi L PySem.F.slot_list_extend PySem.F.type_list_extend WB (Po L.K) hs hm d
end
section
variable{prog:Program}{w:World}{A:Around}{E:Va}
variable{vs:Array Value}
theorem HL{it l:Addr}(a:l≠it):∀(n i:Nat) (s:Shared) (Q:List Value->Shared->Prop),s.heap.IsListIter it l i->s.heap.IsList l vs->i + n<=vs.size->
 (∀h',h'.IsListIter it l (i+n)->Heap.SameBut it s.heap h'->Q ((vs.toList.drop i).take n) {s with heap:=h'})->wpAny (model prog w) A (draw (.ref it) n) Q E s
 |0,i,s,Q,hit,_,_,b=>wpAny_pure (by simpa using b s.heap hit (Heap.SameBut.refl ..))
 | n + 1,i,s,Q,hit,hl,hle,b=>by
   have hlt:i < vs.size:=by lia
   show wpAny _ _ (pyNext (.ref it) >>= _) Q E s;refine wB (wpAny_pyNext_list_item hit hl (x:=vs[i]) (by simp[hlt]) λh1 t1 s1=>?_);refine wB (wpAny_holding (HL a n (i+1) _ _ t1 (hl.extBut s1.extBut a) (by lia) λh2 t2 s2=>wpAny_pure ?_));have:=b h2 (by rw[show i+(n+1)=i+1+n by lia];exact t2) (s1.trans s2);rw[show vs.toList.drop i=vs[i]::vs.toList.drop (i+1)by simp[drop_eq_getElem_cons,hlt],List.take_succ_cons]at this;exact this
theorem QJ{env:PySem.Env}{es:List Expr}{d}{pos:Pos}{Q:Unit->Shared->Prop}(i:A.handled=none)(hl:s.heap.IsList l vs)(g:(assignEach es env).length=vs.size)(a:(assignEach es env).findIdx? (·.1)=none)
 (h:∀h',Heap.ExtBut s.heap.objs.size s.heap h'->wpAny (model prog w) A (assignInOrder ((assignEach es env).map (·.2)) vs.toList) Q E {s with heap:=h'}):wpAny (model prog w) A (assign (.Tuple es d pos) env (.ref l)) Q E s:=by
 rw[assign_Tuple];refine wB (wpAny_standAt ?_);unfold unpack;rw[g,a];refine wB (wpAny_holding ?_);have hlt:l≠s.heap.objs.size:=by rintro⟨o,f,_⟩:hl;exact Nat.ne_of_lt (hZ f)
 unfold unpackItems;refine wB ?_;unfold notIterableAtAll;refine wB (wpAny_specialOf hl.typeIs slot_list_iter.lookup ?_);refine wpAny_pure ?_;simp only[Bool.false_eq_true,if_false];refine wB (wpAny_holding (wpAny_pyIter_list hl ?_));refine wB (wpAny_holding (HL hlt vs.size 0 _ _ #[_,Heap.get?_push_size _ rfl,rfl,rfl] (hl.push _) (by lia) λh1 t1 s1=>?_));rw[show List.take vs.size (List.drop 0 vs.toList)=vs.toList by rw[drop_zero];exact take_of_length_le (by simp)];rw[iN (by simp)];refine wB (wpAny_holding (wpAny_pyNext_list_end i t1 ((hl.push _).extBut s1.extBut hlt) (by simp) λh2 e2=>?_));simp only[Option.isSome_none,Bool.false_eq_true,if_false];exact wpAny_pure (h h2 λb o c e=>e2 b o c (s1.extBut b o c (gP e)))
end
section
variable{k:Nat}{ct:Ct}
def bU(K:Frag)(n:Nat)(t:QX):TG:=λv Y H Q=>∃a xs,v= .ref a/\(DP K H a xs\/D2 K H a xs)/\xs.length=n/\t xs Y H Q
variable{pos:Pos}
theorem VT{es:List Expr}{k:Nat}{t:QX}{n:Nat}(g:X.calm=true)(h:XX X es t)(f:(assignEach es X.env).length=n)(c:(assignEach es X.env).findIdx? (·.1)=none):PG X (.Tuple es k pos) (bU X.K n t):=by
 intro p0 s Y H v u Q I r hw;rintro⟨a,xs,e1,hq,hl,hw⟩:hw;rcases hq with hq|hq
 .subst e1;cases r;rintro⟨its,d,p,hz⟩:I.list hq;refine QJ (I.ok.hd g) p.isList (by simp[f,<-hl,d.length]) c λh' i=>?_
  have j:Inv X p0 Y H {s with heap:=h'}:=I.kept (t':=s.toks) λb o e=>i b o (Nat.ne_of_lt (hZ e)) e
  exact h p0 _ Y H xs _ Q j (by simpa using d) hw
 .exact OP g h f c p0 s Y H v u Q I r #[a,xs,e1,hq,hl,hw]
variable{env:PySem.Env}
theorem Vn{es:List Expr}{n:Nat}(h:Cb e=false):swappedStores [.Tuple es n p] e env=pure none:=by
 cases e<;>first|rfl|cases h
theorem Vm{es:List Expr}{n l:Nat}:swapsWithSole [.Tuple es n p] e l env=pure false:=by
 cases e<;>rfl
theorem Rn(L:Bb ct X W cf k){es:List Expr}{n:Nat}{is:List Nat}(y:Cb e=false)(hs:AR X W cf e t)(A:JX ct es=some is):PS X (.Assign [.Tuple es n p] e pos) (rS W cf (.asg (.tup is) t)):=by
 rintro⟨w,m,l,j⟩:KQ L A;refine Ek (KO hs.v (VT L.calm w m l) Vm (Vn y)) λD Y H hl z=>?_
 rintro⟨Hin,A0,Bo,U,S,g⟩:z
 replace g:Bh W Hin A0 Bo is D Y ((ev cf t U).fl λc=>match Gj (.tup is) c U with
  |some U'=>.nx U'
  |none=>.stuck):=g
 refine#[U,_,S.rev,g.step S λc v H1 e t r h1=>?_];cases es:Gj (.tup is) c U with
 |none=>rw[es]at h1;exact h1.elim
 |some U'=>
   rw[es]at h1;rintro⟨ps,e1,e2⟩:Ab (show((match c with| .lst _ ps=>some ps| .p x=>x.CL |_=>none).bind λps=>Cs (.tup is) (.tup ps) U)=some U' from es);rintro⟨hlen,E⟩:A3 (show(if is.length=ps.length then some ((is.zip ps).foldl (λr q=>r.set q.1 (some (.p q.2))) U)else none)=some U' from e2)
   have key:∃a xs,v= .ref a/\(DP X.K H1 a xs\/D2 X.K H1 a xs)/\Cw W H1 ps xs:=by
    cases c with
    |lst o qs=>
      cases e1;rintro⟨a,xs,f,d,b⟩:EU (c:=.lst o ps) rfl r;exact#[a,xs,f,by rw[<-L.K];exact d,b]
    |p x=>
      cases P.Bs e1;rintro⟨a,xs,f,d,b⟩:CH r;exact#[a,xs,f,.inr (by rw[<-L.K];exact d),b]
    |_=>cases e1
   rintro⟨a,xs,f,d,b⟩:key;have:=Paired.length b;refine#[a,xs,f,d,by lia,Lo b hlen (S.ext e t) (λi hi=>by rw[hl];exact j i hi) λY' s u=>?_];rw[E]at s;exact h1 Y' H1 s u
end
variable{Pg:Program}
theorem BY{xs:List V}(Aj:DD Pg W.w H h)(By:W.K.In h)(hs:D2 W.K H a xs):∃its:List Value,Vals xs its/\IsTup h a its.toArray:=by
 rcases hs with hs|⟨o,its,n,b,c,hd,hz,r⟩
 .obtain⟨z,its,r,p⟩:=hs.ok Aj;exact#[its,r,p]
 .exact#[its.toList,r,#[o,By a o b,c,n,by simpa using hd]]
variable{ys:List V}{us:List Value}
theorem Nq{xs:List V}{zs:List Value}(c:Vals xs us)(b:Vals ys zs)(p:IsTup h a us.toArray)(q:IsTup h a zs.toArray):xs=ys:=by
 rintro⟨o,e1,_,n,d1⟩:p;rintro⟨o',e2,_,d,d2⟩:q;rw[e1]at e2;cases e2;rw[d1]at d2;injection d2 with d3 _
 have:us=zs:=by simpa using congrArg Array.toList d3
 subst this;exact c.inj b
def CZ:P->Option V
 |.AG=>some .AG
 |.bl b=>some (.bl b)
 |.int i=>some (.int i)
 |.str x=>some (.str x)
 |_=>none
theorem CY{w:V}(h:A5 W H p v)(e:CZ p=some w):v=w:=by
 cases p with
 |AG=>cases e;exact Dp.mp h
 |bl _=>cases e;exact Cz.mp h
 |int _=>cases e;exact Aa.mp h
 |str _=>cases e;exact AJ.mp h
 |_=>cases e
theorem NL{v:V}(e:CZ p=some v)(f:CZ q=some v):p=q:=by
 cases p<;>cases e<;>cases q<;>cases f<;>rfl
theorem O4{q:P}(h:q.tag < 4):∃v,CZ q=some v:=by
 cases q<;>first|exact#[_,rfl]|(simp[P.tag]at h)
theorem QI{q:P}{v:V}(h:CZ q=some v):q.tag < 4/\q.CL =none/\∀a,v≠.ref a:=by
 cases q<;>cases h<;>exact#[by simp[P.tag],rfl,nofun]
def ZZ(A:Around)(s:Shared)(u z:Value)(b:Bool):Prop:=SeqAt.RcAt A s u z b/\SeqAt.RcNeAt A s u z (!b)/\SeqAt.EqAt A s u z b
theorem Qm[DecidableEq α][BEq α][LawfulBEq α]{f:α->P}(hf:∀a b,f a=f b->a=b)(a b:α):decide (f a=f b)=(a == b):=by
 by_cases h:a=b
 .subst h;simp
 .rw[dF λz=>h (hf _ _ z)];simp[h]
theorem Ta{v y:V}{A:Around}(a:CZ p=some v)(hq:CZ q=some y)(r:RelV v u)(r':RelV y z)(c:BM p q=true):ZZ A s u z (decide (p=q)):=by
 cases p with
 |AG=>
   cases a;cases r;cases q with
   |AG=>cases hq;cases r';exact#[SeqAt.RcAt.none_none,SeqAt.RcNeAt.none_none,SeqAt.EqAt.same _]
   |bl b=>cases hq;cases r';exact#[SeqAt.RcAt.none_bool _,SeqAt.RcNeAt.none_bool _,SeqAt.EqAt.none_bool _]
   |int b=>cases hq;rintro⟨t,rfl⟩:r';exact#[SeqAt.RcAt.none_int _ _,SeqAt.RcNeAt.none_int _ _,SeqAt.EqAt.none_int _ _]
   |str b=>cases hq;rintro⟨t,rfl⟩:r';exact#[SeqAt.RcAt.none_str _ _,SeqAt.RcNeAt.none_str _ _,SeqAt.EqAt.none_str _ _]
   |_=>cases hq
 |bl i=>
   cases a;cases r;cases q with
   |AG=>cases hq;cases r';exact#[SeqAt.RcAt.bool_none _,SeqAt.RcNeAt.bool_none _,SeqAt.EqAt.bool_none _]
   |bl b=>cases hq;cases r';rw[Qm (f:=P.bl) λ_ _=>P.bl.inj];exact#[SeqAt.RcAt.bool_bool _ _,SeqAt.RcNeAt.bool_bool _ _,SeqAt.EqAt.bool_bool _ _]
   |int b=>unfold BM at c;cases c
   |str b=>cases hq;rintro⟨t,rfl⟩:r';exact#[SeqAt.RcAt.bool_str _ _ _,SeqAt.RcNeAt.bool_str _ _ _,SeqAt.EqAt.bool_str _ _ _]
   |_=>cases hq
 |int i=>
   cases a;rintro⟨t,rfl⟩:r;cases q with
   |AG=>cases hq;cases r';exact#[SeqAt.RcAt.int_none _ _,SeqAt.RcNeAt.int_none _ _,SeqAt.EqAt.int_none _ _]
   |bl b=>unfold BM at c;cases c
   |int b=>cases hq;rintro⟨t,rfl⟩:r';rw[Qm (f:=P.int) λ_ _=>P.int.inj];exact#[SeqAt.RcAt.int_int _ _ _ _,SeqAt.RcNeAt.int_int _ _ _ _,SeqAt.EqAt.int_int _ _ _ _]
   |str b=>cases hq;rintro⟨t,rfl⟩:r';exact#[SeqAt.RcAt.int_str _ _ _ _,SeqAt.RcNeAt.int_str _ _ _ _,SeqAt.EqAt.int_str _ _ _ _]
   |_=>cases hq
 |str i=>
   cases a;rintro⟨t,rfl⟩:r;cases q with
   |AG=>cases hq;cases r';exact#[SeqAt.RcAt.str_none _ _,SeqAt.RcNeAt.str_none _ _,SeqAt.EqAt.str_none _ _]
   |bl b=>cases hq;cases r';exact#[SeqAt.RcAt.str_bool _ _ _,SeqAt.RcNeAt.str_bool _ _ _,SeqAt.EqAt.str_bool _ _ _]
   |int b=>cases hq;rintro⟨t,rfl⟩:r';exact#[SeqAt.RcAt.str_int _ _ _ _,SeqAt.RcNeAt.str_int _ _ _ _,SeqAt.EqAt.str_int _ _ _ _]
   |str b=>cases hq;rintro⟨t,rfl⟩:r';rw[Qm (f:=P.str) λ_ _=>P.str.inj];exact#[SeqAt.RcAt.str_str _ _ _ _,SeqAt.RcNeAt.str_str _ _ _ _,SeqAt.EqAt.str_str _ _ _ _]
   |_=>cases hq
 |_=>cases a
theorem UO{its:Array Value}{v:V}{A:Around}(a:CZ p=some v)(r:RelV v u)(t:IsTup s.heap b its)(c:A.units + 1 < cLine):ZZ A s u (.ref b) false/\ZZ A s (.ref b) u false:=by
 have h0:A.units < cLine:=by lia
 cases p with
 |AG=>cases a;cases r;exact#[#[SeqAt.RcAt.none_tuple t h0,SeqAt.RcNeAt.none_tuple t h0,SeqAt.EqAt.none_tuple t h0],SeqAt.RcAt.tuple_none t h0,SeqAt.RcNeAt.tuple_none t h0,SeqAt.EqAt.tuple_none t h0]
 |bl b=>cases a;cases r;exact#[#[SeqAt.RcAt.bool_tuple _ t h0,SeqAt.RcNeAt.bool_tuple _ t h0,SeqAt.EqAt.bool_tuple _ t h0],SeqAt.RcAt.tuple_bool _ t h0,SeqAt.RcNeAt.tuple_bool _ t h0,SeqAt.EqAt.tuple_bool _ t h0]
 |int b=>cases a;rintro⟨t',rfl⟩:r;exact#[#[SeqAt.RcAt.int_tuple _ _ t h0,SeqAt.RcNeAt.int_tuple _ _ t h0,SeqAt.EqAt.int_tuple _ _ t h0],SeqAt.RcAt.tuple_int _ _ t h0,SeqAt.RcNeAt.tuple_int _ _ t h0,SeqAt.EqAt.tuple_int _ _ t h0]
 |str b=>cases a;rintro⟨t',rfl⟩:r;exact#[#[SeqAt.RcAt.str_tuple _ _ t h0,SeqAt.RcNeAt.str_tuple _ _ t h0,SeqAt.EqAt.str_tuple _ _ t h0],SeqAt.RcAt.tuple_str _ _ t h0,SeqAt.RcNeAt.tuple_str _ _ t h0,SeqAt.EqAt.tuple_str _ _ t h0]
 |_=>cases a
theorem HQ{v:V}(e:CZ p=some v)(h:BM p q=true):(∃y,CZ q=some y)\/∃qs,q= .tup qs:=by
 cases q with
 |tup ps=>exact .inr #[ps,rfl]
 |fn _ _=>cases p<;>cases e<;>(unfold BM at h;cases h)
 |box _ _=>cases p<;>cases e<;>(unfold BM at h;cases h)
 |_=>exact .inl #[_,rfl]
theorem Kc{ps:List P}(h:BM (.tup ps) q=true):(∃y,CZ q=some y)\/∃qs,q= .tup qs/\BA ps qs=true:=by
 unfold BM at h;rw[Bool.or_eq_true]at h;rcases h with h|h
 .exact .inl (O4 (of_decide_eq_true h))
 .obtain⟨qs,e1,e2⟩:=any_some h;exact .inr #[qs,P.Bs e1,e2]
mutual
theorem A5.det {h:Heap} (Aj:DD Pg W.w H h) (By:W.K.In h):∀{p q:P} {v:V},A5 W H p v->A5 W H q v->BM p q=true->p=q
 | .tup ps,q,v,d,hq,c=>by
   rintro⟨a,vs,rfl,s1,i⟩:A9.mp d;rcases Kc c with⟨y,f⟩|⟨qs,rfl,c⟩
   .exact absurd (CY hq f).symm ((QI f).2.2 a)
   .obtain⟨b,ws,e,s2,g⟩:=A9.mp hq;cases e;rintro⟨its,v1,p1⟩:BY Aj By s1;rintro⟨its',v2,p2⟩:BY Aj By s2;cases Nq v1 v2 p1 p2;rw[BV.det Aj By i g c]
 | .AG,q,v,d,hq,c| .bl _,q,v,d,hq,c| .int _,q,v,d,hq,c| .str _,q,v,d,hq,c=>by
   have e1:=CY d rfl;rcases HQ rfl c with⟨y,f⟩|⟨qs,rfl⟩
   .have e2:=CY hq f;subst e1;subst e2;exact NL rfl f
   .obtain⟨a,_,e2,_⟩:=A9.mp hq;subst e1;cases e2
 |.fn _ _,q,v,d,hq,c| .box _ _,q,v,d,hq,c=>by unfold BM at c;cases c
theorem BV.det {h:Heap} (Aj:DD Pg W.w H h) (By:W.K.In h):∀{ps qs:List P} {vs:List V},Cw W H ps vs->Cw W H qs vs->BA ps qs=true->ps=qs
 |[],qs,vs,b,hq,a=>by cases b;cases hq;rfl
 | p ::ps,qs,vs,b,hq,a=>by
   cases b with
   |cons h1 h2=>
     cases hq with
     |cons g1 g2=>
       unfold BA at a;rw[bA]at a;rw[A5.det Aj By h1 g1 a.1,BV.det Aj By h2 g2 a.2]
end
def Qr(b:Bool)(e:Nat->Bool):Nat->Bool
 |0=>b
 |j+1=>e j
theorem NN(b:Bool)(e:Nat->Bool)(n m:Nat):((List.range (min (n + 1) (m + 1))).all (Qr b e) && (n + 1 == m + 1))=(b && ((List.range (min n m)).all e && n == m)):=by
 rw[show min (n+1) (m+1)=min n m+1 by lia,List.range_succ_eq_map,all_cons,List.all_map];have h1:(Qr b e ∘ Nat.succ)=e:=rfl
 have h2:(n + 1 == m + 1)=(n == m):=by
  by_cases h:n=m
  .simp[h]
  .simp[h]
 rw[h1,h2,Bool.and_assoc];rfl
theorem in1_units{A:Around}:A.in1.units=A.units+1:=by first|rfl|simp[Around.in1]
variable{qs:List P}
theorem Ti{ps:List P}:decide (P.tup ps=P.tup qs)=decide (ps=qs):=by
 by_cases h:ps=qs
 .subst h;simp
 .rw[dF h,dF (λz=>h (P.tup.inj z))]
theorem HN{ps:List P}:(P.tup ps).depth=P.Bi ps+1:=by conv=>lhs;unfold P.depth
theorem GQ{p:P}{ps:List P}:P.Bi (p::ps)=max p.depth (P.Bi ps):=by conv=>lhs;unfold P.Bi
theorem Fi{v:V}(e:CZ p=some v):decide (p= .tup qs)=false/\decide (P.tup qs=p)=false:=by
 cases p<;>cases e<;>exact#[dF nofun,dF nofun]
theorem Qg{p:P}{w:V}{A:Around}(e:A5 W H p v)(hq:A5 W H q y)(r:RelV v u)(r':RelV y z)(Aj:DD Pg W.w H s.heap)(By:W.K.In s.heap)(d:BM p q=true)(g:A.units + p.depth + 1 < cLine)(a:CZ p=some w):ZZ A s u z (decide (p=q)):=by
 cases CY e a;rcases HQ a d with⟨w,c⟩|⟨qs,rfl⟩
 .cases CY hq c;exact Ta a c r r' d
 .obtain⟨b,ws,rfl,s2,f⟩:=A9.mp hq;cases r';rintro⟨its,v1,p1⟩:BY Aj By s2;rw[(Fi a).1];exact(UO a r p1 (by lia)).1
mutual
theorem Ly:∀(p:P) {q:P} {v y:V} {u z:Value} {A:Around} {s:Shared},A5 W H p v->A5 W H q y->RelV v u->RelV y z->DD Pg W.w H s.heap->W.K.In s.heap->BM p q=true->A.units + p.depth + 1 < cLine->
 ZZ A s u z (decide (p=q))
 | .tup ps,q,v,y,u,z,A,s,d,hq,r,r',Aj,By,c,f=>by
   have k:=d;have l:=c;rintro⟨a,vs,rfl,s1,t⟩:A9.mp d;cases r;rintro⟨its,v1,p1⟩:BY Aj By s1;rcases Kc c with⟨w,i⟩|⟨qs,rfl,c⟩
   .cases CY hq i;rw[(Fi i).2];exact(UO i r' p1 (by lia)).2
   .obtain⟨b,ws,rfl,s2,o⟩:=A9.mp hq;cases r';rintro⟨its',v2,p2⟩:BY Aj By s2;have x:A.in1.units=A.units+1:=in1_units;have E:=HN (ps:=ps);rintro⟨e,he,hd⟩:LA ps (A:=A.in1) (s:=s) t o v1 v2 Aj By c (by lia);have n:∀j (h1:j < its.toArray.size) (h2:j < its'.toArray.size),SeqAt.EqAt A.in1 s its.toArray[j] its'.toArray[j] (e j):=λj h1 h2=>he j _ _ (by simp at h1 ⊢) (by simp at h2 ⊢)
    have rc:=SeqAt.RcAt.tuples (A:=A) (s:=s) (e:=e) p1 p2 (by lia) n;have m:=SeqAt.RcNeAt.tuples (A:=A) (s:=s) (e:=e) p1 p2 (by lia) n;rw[size_toArray,size_toArray,hd,<-Ti]at rc m;refine#[rc,m,?_]
    by_cases g:a=b
    .subst g;rw[dZ (A5.det Aj By k hq l)];exact SeqAt.EqAt.same _
    .exact SeqAt.EqAt.of_refs g rc
 | .AG,q,v,y,u,z,A,s,d,hq,r,r',Aj,By,c,f| .bl _,q,v,y,u,z,A,s,d,hq,r,r',Aj,By,c,f| .int _,q,v,y,u,z,A,s,d,hq,r,r',Aj,By,c,f| .str _,q,v,y,u,z,A,s,d,hq,r,r',Aj,By,c,f=>by
   exact Qg d hq r r' Aj By c f rfl
 |.fn _ _,q,v,y,u,z,A,s,d,hq,r,r',Aj,By,c,f| .box _ _,q,v,y,u,z,A,s,d,hq,r,r',Aj,By,c,f=>by unfold BM at c;cases c
theorem LA:∀(ps:List P) {qs:List P} {vs ws:List V} {us zs:List Value} {A:Around} {s:Shared},Cw W H ps vs->Cw W H qs ws->Vals vs us->Vals ws zs->DD Pg W.w H s.heap->W.K.In s.heap->BA ps qs=true->A.units + P.Bi ps + 1 < cLine->
 ∃e:Nat->Bool,(∀(j:Nat) (x y:Value),us[j]? =some x->zs[j]? =some y->SeqAt.EqAt A s x y (e j))/\((List.range (min us.length zs.length)).all e && us.length == zs.length)=decide (ps=qs)
 | [],qs,vs,ws,us,zs,A,s,d,hq,r,r',Aj,By,c,m=>by
   cases d;cases r;refine#[λ_=>true,λj x y b _=>by simp at b,?_];cases hq with
   |nil=>cases r';rfl
   |cons _ _=>cases r';rw[dF nofun];simp
 | p ::ps,qs,vs,ws,us,zs,A,s,d,hq,r,r',Aj,By,c,m=>by
   cases d with
   |cons h1 h2=>
     cases r with
     |cons i g=>
       cases hq with
       |nil=>
         cases r';refine#[λ_=>true,λj x y _ a=>by simp at a,?_];rw[dF nofun];simp
       |cons g1 g2=>
         rename_i q _ qs _;cases r' with
         |cons l k=>
           unfold BA at c;rw[bA]at c;have hd:=GQ (p:=p) (ps:=ps);rintro⟨e,he,f⟩:LA ps (A:=A) (s:=s) h2 g2 g k Aj By c.2 (by lia);have h0:=(Ly p (A:=A) (s:=s) h1 g1 i l Aj By c.1 (by lia)).2.2;refine#[Qr (decide (p=q)) e,λj x y b a=>?_,?_]
           .cases j with
            |zero=>
              simp at b a;subst b a;exact h0
            |succ j=>exact he j x y (by simpa using b) (by simpa using a)
           .rw[lC,lC,NN,f]
            by_cases h1:p=q<;>by_cases h2:ps=qs<;>simp[h1,h2]
end
theorem Px{ps:List P}{xs:List V}{Y:L2.St}(hK:W.K=X.K)(hw:W.w=X.w)(u:X.A.units + 200 < cLine)(I:∅)(q:Rd H a (.lst xs))(p:Rd H b (.lst ys))(h1:Cw W H ps xs)(h2:Cw W H qs ys)
 (o:BA ps qs=true)(hd:P.Bi ps<=90):SeqAt.RcAt X.A s (.ref a) (.ref b) (decide (ps=qs))/\SeqAt.RcNeAt X.A s (.ref a) (.ref b) (!decide (ps=qs)):=by
 rintro⟨c,m,p1,t⟩:I.list (.inl q);rintro⟨d,l,p2,r⟩:I.list (.inl p);have n:X.A.in1.units=X.A.units+1:=in1_units;rintro⟨e,he,hd⟩:LA (Pg:=X.prog) ps (A:=X.A.in1) (s:=s) h1 h2 m l (hw▸I.Aj) (hK▸I.GC) o (by lia)
 by_cases hl:c.length=d.length
 .have e1:((List.range c.toArray.size).all e)=decide (ps=qs):=by
   rw[<-hd,size_toArray,<-hl];simp
  have k:∀j (h1:j < c.toArray.size) (h2:j < d.toArray.size),SeqAt.EqAt X.A.in1 s c.toArray[j] d.toArray[j] (e j):=λj h1 h2=>he j _ _ (by simp at h1 ⊢) (by simp at h2 ⊢)
  have i:=SeqAt.RcAt.lists (e:=e) p1.isList p2.isList (by rw[size_toArray,size_toArray];exact hl) (by lia) k;have g:=SeqAt.RcNeAt.lists (e:=e) p1.isList p2.isList (by rw[size_toArray,size_toArray];exact hl) (by lia) k;rw[e1]at i g;exact#[i,g]
 .have e1:decide (ps=qs)=false:=by
   rw[<-hd];simp[hl]
  rw[e1]
  have f:(c.toArray.size != d.toArray.size)=true:=by
   rw[size_toArray,size_toArray];simpa using hl
  exact#[SeqAt.RcAt.lists_lengths p1.isList p2.isList f (by lia),SeqAt.RcNeAt.lists_lengths p1.isList p2.isList f (by lia)]
theorem Qf(hK:W.K=X.K)(hw:W.w=X.w)(j:X.A.units + 200 < cLine){Y:L2.St}{t:Bool}(I:∅)(f:RelV x v)(d:RelV y u)(h1:Dk W H l x)(h2:Dk W H k y)(e:Xf l k=some t):
 SeqAt.RcAt X.A s v u t/\SeqAt.RcNeAt X.A s v u (!t):=by
 rcases or_some e with e|e
 .obtain⟨p,e1,e⟩:=Ab e;rintro⟨q,e2,e⟩:Ab e;rintro⟨c,rfl⟩:A3 e;cases C.BO e1;cases C.BO e2;have z:=Ly (Pg:=X.prog) p (A:=X.A) (GY h1) (GY h2) f d (hw▸I.Aj) (hK▸I.GC) c.1 (by lia);exact#[z.1,z.2.1]
 .obtain⟨p,e1,e⟩:=Ab e;rintro⟨q,e2,e⟩:Ab e;rintro⟨c,rfl⟩:A3 e;rintro⟨a,xs,rfl,k1,k2⟩:Bn e1 h1;rintro⟨b,ys,rfl,i,g⟩:Bn e2 h2;cases f;cases d;exact Px hK hw j I k1 i k2 g c.1 c.2
theorem bB(hK:W.K=X.K)(hw:W.w=X.w)(d:X.A.units + 200 < cLine):BG X (compareOp .Eq) (AV W Bd):=by
 rintro p0 s Y H x y v u Q I b a ⟨i,g,c,h1,h2,e,q⟩
 rintro⟨t,f,rfl⟩:AU e;exact(Qf hK hw d I b a h1 h2 f).1 X.prog X.w _ _ #[.bl t,H,I,rfl,q.bl]
theorem bq(hK:W.K=X.K)(hw:W.w=X.w)(d:X.A.units + 200 < cLine):BG X (compareOp .NotEq) (AV W Eo):=by
 rintro p0 s Y H x y v u Q I b a ⟨i,g,c,h1,h2,e,q⟩
 rintro⟨t,f,rfl⟩:AU e;exact(Qf hK hw d I b a h1 h2 f).2 X.prog X.w _ _ #[.bl (!t),H,I,rfl,q.bl]
theorem Sn{f:Value->Value->Sem Value}{b:Int->Int->Bool}{r:R2}(l:BG X f r)(k:∀i j H Q,Q (.bl (b i j)) H->r (.int i) (.int j) H Q):BG X f (AV W λa c=>a.int?.bind λi=>c.int?.map λj=>bC (b i j)):=by
 rintro p0 s Y H x y v u Q I g d ⟨p,o,c,h1,h2,e,q⟩
 rintro⟨i,n,e⟩:Ab e;rintro⟨j,m,rfl⟩:AU e;cases C.AW n;cases C.AW m;cases AZ h1;cases AZ h2;exact l p0 s Y H _ _ v u Q I g d (k i j H Q q.bl)
theorem br:BG X (compareOp .Lt) (AV W L7):=Sn Z3 λi j H Q q=>#[i,j,rfl,rfl,q]
theorem bx:BG X (compareOp .Gt) (AV W Ny):=Sn Z5 λi j H Q q=>#[i,j,rfl,rfl,q]
theorem bz:BG X (compareOp .GtE) (AV W ZD):=Sn Z6 λi j H Q q=>#[i,j,rfl,rfl,q]
theorem Nh(a b:List Nat):decide (a<=b)= !decide (b < a):=by
 by_cases h:b < a
 .have:¬a<=b:=λz=>not_lt.mpr z h
  simp[h,this]
 .have:a<=b:=not_lt.mp h;simp[h,this]
theorem bt:BG X (compareOp .LtE) (AV W Lb):=by
 refine BG.or (Sn Z4 λi j H Q q=>#[i,j,rfl,rfl,q]) ?_
 rintro p0 s Y H x y v u Q I b a ⟨k,g,c,h1,h2,e,q⟩
 rintro⟨i,f,e⟩:Ab e;rintro⟨j,d,rfl⟩:AU e;cases C.Bt f;cases C.Bt d;cases BI h1;cases BI h2;refine N8 p0 s Y H _ _ v u Q I b a #[_,_,rfl,rfl,?_];have:=q.bl;rw[Nh]at this;exact this
theorem Gm{c:C} :Dk W H c x->c.Ww=decide (x= .AG):=by
 intro h;cases c with
 |lst o ps=>rintro⟨_,_,rfl,_⟩:h;rfl
 |Bl o ps=>rintro⟨_,_,rfl,_⟩:h;rfl
 |obj o ps=>rintro⟨_,_,_,rfl,_⟩:h;rfl
 |p p=>
   cases p with
   |AG=>rw[Gn h];rfl
   |bl _=>rw[Ei h];rfl
   |int _=>rw[AZ h];rfl
   |str _=>rw[BI h];rfl
   |fn _ _=>rintro⟨a,_,rfl⟩:FZ.mp (GY h);rfl
   |tup _=>rintro⟨_,_,rfl,_⟩:CH h;rfl
   |box _ _=>rintro⟨_,_,rfl,_⟩:CN.mp (GY h);rfl
theorem bu:BG X (compareOp .Is) (AV W Fw):=by
 rintro p0 s Y H x y v u Q I b a ⟨f,d,c,h1,h2,e,q⟩
 rintro⟨p,ep,e⟩:Ab e;rintro⟨rfl,rfl⟩:A3 e;cases C.BO ep;cases Gn h2;have:=q.bl;rw[Gm h1]at this;exact Wl p0 s Y H _ _ v u Q I b a #[rfl,this]
theorem Ze:BG X (compareOp .IsNot) (AV W E6):=by
 rintro p0 s Y H x y v u Q I b a ⟨f,d,c,h1,h2,e,q⟩
 rintro⟨p,ep,e⟩:Ab e;rintro⟨rfl,rfl⟩:A3 e;cases C.BO ep;cases Gn h2;have:=q.bl;rw[Gm h1]at this;exact Sd p0 s Y H _ _ v u Q I b a #[rfl,this]
def Mq(x:Str):Value->Bool
 |.str z _=>z == x
 |_=>false
theorem D4:∀{ps:List P} {xs:List Str} {vs:List V} {us:List Value},Cv P.BN ps=some xs->Cw W H ps vs->Vals vs us->Paired (λz u=>∃t,u= .str z t) xs us
 |[],xs,vs,us,e,h,r=>by cases e;cases h;cases r;exact .nil
 | p ::ps,xs,vs,us,e,h,r=>by
   rintro⟨z,e1,e⟩:Ab e;rintro⟨zs,e2,rfl⟩:AU e;cases P.Bt e1;cases h with
   |cons h1 h2=>
     cases AJ.mp h1;cases r with
     |cons b a=>exact .cons b (D4 e2 h2 a)
theorem MJ{xs:List Str}(h:Paired (λz u=>∃t,u=Value.str z t) xs us):us.any (Mq x)=xs.contains x:=by
 induction h with
 |nil=>rfl
 |cons h1 _ a=>
   rintro⟨t,rfl⟩:h1;rw[any_cons,List.contains_cons,a]
   congr 1
   exact BEq.comm
theorem Lz{t:Tok}{A:Around}{xs:List Str}(h:Paired (λz u=>∃t,u=Value.str z t) xs us):∀y∈us,SeqAt.EqAt A s y (.str x t) (Mq x y):=by
 induction h with
 |nil=>intro y a;cases a
 |cons h1 _ b=>
   intro y a;rintro⟨t,rfl⟩:h1;rcases mem_cons.mp a with rfl|a
   .exact SeqAt.EqAt.str_str _ _ _ _
   .exact b y a
theorem X2(hK:W.K=X.K){Y:L2.St}{t:Bool}{Q:VK}(I:∅)(i:RelV x v)(g:RelV y u)(h1:Dk W H k x)(h2:Dk W H j y)(e:dq k j=some t):
 (Q (.bl t) H->(X|||(compareOp .In v u)) (EP X p0 Y Q) X.xe s)/\(Q (.bl (!t)) H->(X|||(compareOp .NotIn v u)) (EP X p0 Y Q) X.xe s):=by
 rintro⟨z,e1,e⟩:Ab e;rintro⟨ps,e2,e⟩:Ab e;rintro⟨xs,f,rfl⟩:AU e;cases C.Bt e1;cases BI h1;rintro⟨tk,rfl⟩:i;rintro⟨a,vs,rfl,k1,k2⟩:EU e2 h2;cases g;rcases k1 with k1|k1
 .obtain⟨its,r,b,hz⟩:=I.list (hK▸k1);have c:=D4 f k2 r;have an:its.toArray.any (Mq z)=xs.contains z:=by rw[<-MJ c];simp
  have hm:∀y,y∈its.toArray->SeqAt.EqAt X.A.in1 s y (.str z tk) (Mq z y):=λy d=>Lz c y (by simpa using d)
  exact#[λq=>SeqAt.in_listAt (Mq z) b.isList hm #[.bl _,H,I,rfl,by rw[an];exact q],λq=>SeqAt.notIn_listAt (Mq z) b.isList hm #[.bl _,H,I,rfl,by rw[an];exact q]]
 .obtain⟨its,r,b,hz⟩:=I.tuple (hK▸k1);have c:=D4 f k2 r;have an:its.toArray.any (Mq z)=xs.contains z:=by rw[<-MJ c];simp
  have hm:∀y,y∈its.toArray->SeqAt.EqAt X.A.in1 s y (.str z tk) (Mq z y):=λy d=>Lz c y (by simpa using d)
  exact#[λq=>SeqAt.in_tupleAt (Mq z) b hm #[.bl _,H,I,rfl,by rw[an];exact q],λq=>SeqAt.notIn_tupleAt (Mq z) b hm #[.bl _,H,I,rfl,by rw[an];exact q]]
section
open PySem.Builtin.Str
def cb(v:Option Int)(n d:Int):Int:=match v with|none=>d|some i=>max 0 (min (if i < 0 then i+n else i) n)
theorem Qv(n d:Nat)(v:Option Int):cb v n d=(DT n d v:Nat):=by
 cases v with
 |none=>rfl
 |some i=>show max 0 (min (if i < 0 then i+(n:Int)else i) (n:Int))=((if i < 0 then(i+n).toNat else min i.toNat n:Nat):Int);split<;>lia
theorem idx_eq(lo hi:Option Int)(n:Nat):strSliceIndices lo hi 1 n=(List.range (DT n n hi - DT n 0 lo)).map (λk=>DT n 0 lo + k):=by
 show sliceRange (cb lo n 0) (cb hi n n) 1=_;have h1:=Qv n 0 lo;have h2:=Qv n n hi;rw[show((0:Nat):Int)=0 from rfl]at h1;rw[h1,h2];unfold sliceRange;simp only[show(1:Int) > 0 by decide,if_true]
 congr 1
 .funext k;lia
 .congr 1;split<;>lia
theorem Mt{α:Type}(xs:List α)(a:Nat):∀m:Nat,((List.range m).map (λk=>a + k)).filterMap (xs[·]?)=(xs.drop a).take m
 |0=>rfl
 | m + 1=>by
   rw[range_succ,map_append,List.filterMap_append,Mt xs a m,take_add_one]
   congr 1
   rw[List.getElem?_drop];show List.filterMap _ [a+m]=_;rw[filterMap_cons];cases xs[a+m]?<;>rfl
theorem N2(x:Str)(lo hi:Option Int):Txt.slice x lo hi=#[(cut x.cps.toList lo hi).toArray]:=by
 have a:x.cps.toList.length=x.length:=by simp[Str.length]
 have key:((strSliceIndices lo hi 1 x.length).filterMap (x.cps[·]?))=cut x.cps.toList lo hi:=by
  rw[idx_eq,show(λi:Nat=>x.cps[i]?)=(λi:Nat=>x.cps.toList[i]?)by funext i;simp,Mt];unfold cut;rw[a]
 unfold Txt.slice;split
 .rename_i h;have hl:(strSliceIndices lo hi 1 x.length).length=x.length:=by simpa using h
  rw[idx_eq,lM,length_range]at hl;have h1:DT x.length x.length hi<=x.length:=by cases hi<;>simp[DT];split<;>lia
  by_cases h0:x.length=0
  .have e0:x.cps.toList=[]:=List.eq_nil_of_length_eq_zero (by rw[a];exact h0);rw[e0];rintro⟨c⟩:x;rw[show c= [].toArray from Array.toList_inj.mp e0];simp[cut]
  have h2:DT x.length 0 lo=0/\DT x.length x.length hi-DT x.length 0 lo=x.length:=by lia
  unfold cut;rw[a,h2.2,h2.1,drop_zero,take_of_length_le (by rw[a];exact Nat.le_refl _)]
 .rw[key]
end
section
variable{ct:Ct}{k:Nat}
theorem Yh:Hl X (unaryOp .USub) (BZ W (He Nb)):=by
 rintro p0 s Y H x v Q I a ⟨d,c,h1,e,q⟩
 rintro⟨i,b,e⟩:Ab e;rintro⟨p,ep,rfl⟩:AU e;cases ep;cases C.AW b;cases AZ h1;exact V4 p0 s Y H _ v Q I a #[i,rfl,q.int]
theorem Zw(hK:W.K=X.K):QQ X (AV W Ae):=by
 rintro value slice p0 s Y H x y v u Q I g f ⟨t,r,c,h1,h2,e,q⟩ hs
 rintro⟨ps,e1,e⟩:Ab e;rintro⟨i,n,e⟩:Ab e;rintro⟨j,d,e⟩:Ab e;rintro⟨p,ep,rfl⟩:AU e;cases C.AW n;cases AZ h2;refine WW value slice p0 s Y H x _ v u Q I g f ?_ hs;rcases or_some e1 with e1|e1
 .obtain⟨a,vs,rfl,k1,k2⟩:=EU e1 h1;rintro⟨w,m,b⟩:Pd.get k2 ep
  have at':XU vs i=some w:=by
   show(L2.IK vs.length i).bind _=_;rw[<-Paired.length k2,show L2.IK ps.length i=some j from d];exact m
  rcases k1 with k1|k1
  .exact .inl #[a,vs,i,w,rfl,rfl,hK▸k1,at',q.plain b]
  .exact .inr (.inl #[a,vs,i,w,rfl,rfl,hK▸k1,at',q.plain b])
 .obtain⟨z,l,e1⟩:=Ab e1;rintro⟨hl,rfl⟩:A3 e1;cases C.Bt l;cases BI h1;rintro⟨ch,o,rfl⟩:oM (show(z.cps.toList[j]?).map sign=some p by rw[<-List.getElem?_map];exact ep);refine .inr (.inr #[z,i,ch,rfl,rfl,Nat.le_trans hl Bw,?_,q.str]);show(L2.IK z.cps.toList.length i).bind _=_;rw[show L2.IK z.cps.toList.length i=some j by rw[show z.cps.toList.length=(z.cps.toList.map sign).length from by simp];exact d];exact o
theorem G6(n d:Nat)(o:Option Int):DT n d o=HT.BD n d o:=by cases o<;>rfl
variable{H:Hp}
theorem Mx{ps:List P}{vs:List V}(h:Cw W H ps vs)(lo hi:Option Int):Cw W H (cut ps lo hi) (Kb vs lo hi):=by
 unfold cut Kb;rw[G6,G6,Paired.length h];exact Pd.take _ (Pd.drop _ h)
theorem YG(hK:W.K=X.K):Xv X (λx lo hi H Q=>∃c r,Dk W H c x/\JA lo hi c=some r/\Cc W H r Q):=by
 rintro p0 s Y H x v vl vu lo hi sl Q I b hs d pu ⟨c,r,h1,e,q⟩
 rcases or_some e with e|e
 .obtain⟨ps,e1,rfl⟩:=AU e;rintro⟨a,vs,rfl,k1,k2⟩:Bn e1 h1;exact RG p0 s Y H _ v vl vu lo hi sl Q I b hs d pu #[a,vs,rfl,.inl k1,q.list (Mx k2 lo hi)]
 rcases or_some e with e|e
 .obtain⟨ps,e1,rfl⟩:=AU e;cases C.Bs e1;rintro⟨a,vs,rfl,k1,k2⟩:CH h1
  by_cases hw:HT.BD vs.length 0 lo=0/\HT.BD vs.length vs.length hi=vs.length
  .refine RF p0 s Y H _ v vl vu lo hi sl Q I b hs d pu #[a,vs,rfl,hK▸k1,hw,?_]
   have e:cut ps lo hi=ps:=by
    unfold cut;rw[G6,G6,Paired.length k2,hw.1,hw.2,<-Paired.length k2];simp
   rw[e]at q;exact q.plain (GY h1)
  .exact Vu p0 s Y H _ v vl vu lo hi sl Q I b hs d pu #[a,vs,rfl,hK▸k1,hw,q.tup (Mx k2 lo hi)]
 .obtain⟨z,f,e⟩:=Ab e;rintro⟨⟨_,hl⟩,rfl⟩:A3 e;cases C.Bt f;cases BI h1;refine Vv p0 s Y H _ v vl vu lo hi sl Q I b hs d pu #[z,rfl,Nat.le_trans hl Bw,?_];rw[N2];exact q.str
theorem Qy:bootBuiltins "len"=some (.builtin "len"):=by decide +kernel
theorem Xo:bootBuiltins "isinstance"=some (.builtin "isinstance"):=by decide +kernel
theorem Xr:bootBuiltins "all"=some (.builtin "all"):=by decide +kernel
theorem Xs:bootBuiltins "abs"=some (.builtin "abs"):=by decide +kernel
theorem J9:bootBuiltins "list"=some (.type "list"):=by decide +kernel
theorem Kk:bootBuiltins "tuple"=some (.type "tuple"):=by decide +kernel
theorem Xp:bootBuiltins "int"=some (.type "int"):=by decide +kernel
theorem TC:bootBuiltins "bool"=some (.type "bool"):=by decide +kernel
theorem Xk:bootBuiltins "str"=some (.type "str"):=by decide +kernel
def bp(r:V->Hp->VK->Prop):List V->Hp->VK->Prop
 |[v],H,Q=>r v H Q
 |_,_,_=>False
theorem G7{r:V->Hp->VK->Prop}(h:Hl X (λv=>call f [v]) r):Di X f (bp r):=by
 intro p0 s Y H xs us Q I rs q;cases rs with
 |nil=>exact q.elim
 |cons b a=>
   cases a with
   |nil=>exact h p0 s Y H _ _ Q I b q
   |cons _ _=>exact q.elim
variable{id:String}{pos:Pos}{te:TE}
theorem T8(L:Bb ct X W cf k){g:C->Option C}(d:Hl X (λv=>call (.builtin id) [v]) (BZ W g))(c:ct.own x=true)(b:bootBuiltins x=some (.builtin id))(a:A7 e=true)(he:PE X e te):PE X (.Call (.Name x p) [e] [] pos) (λY H Q=>te Y H λv H1=>BZ W g v H1 Q):=by
 rintro⟨g1,g2,g3,f⟩:L.EV c;exact Ai (Dr (G7 d) g1 g2 b (AB he Bv (A2 a [] _)) f g3 (A2 a [] _) rfl) λY H Q z=>z
theorem ZI(L:Bb ct X W cf k){g:C->Option C}(d:Hl X (λv=>call (.type id) [v]) (BZ W g))(c:ct.own x=true)(b:bootBuiltins x=some (.type id))(a:A7 e=true)(he:PE X e te):PE X (.Call (.Name x p) [e] [] pos) (λY H Q=>te Y H λv H1=>BZ W g v H1 Q):=by
 rintro⟨g1,g2,g3,f⟩:L.EV c;exact Ai (Hx (G7 d) g1 g2 b (AB he Bv (A2 a [] _)) f g3 (A2 a [] _) rfl) λY H Q z=>z
theorem Yi(hK:W.K=X.K):Hl X (λv=>call (.builtin "len") [v]) (BZ W AD):=by
 rintro p0 s Y H x v Q I b ⟨f,c,h1,e,q⟩
 rintro⟨ps,e1,rfl⟩:AU e;rcases or_some e1 with e1|e1
 .obtain⟨a,vs,rfl,k1,k2⟩:=EU e1 h1;rw[Paired.length k2]at q;exact J6 p0 s Y H [.ref a] [v] Q I (.cons b .nil) #[a,vs,rfl,hK▸k1,q.int]
 .obtain⟨z,d,e1⟩:=Ab e1;rintro⟨hl,rfl⟩:A3 e1;cases C.Bt d;cases BI h1;rw[show(signs z).length=z.length by simp[signs,Str.length]]at q;exact J5 p0 s Y H [.str z] [v] Q I (.cons b .nil) #[z,rfl,Nat.le_trans hl Bw,q.int]
theorem Yf(hK:W.K=X.K):Hl X (λv=>call (.type "tuple") [v]) (BZ W Jo):=by
 rintro p0 s Y H x v Q I b ⟨d,c,h1,e,q⟩
 rintro⟨ps,e1,rfl⟩:AU e;rintro⟨a,vs,rfl,k1,k2⟩:EU e1 h1;refine Hk p0 s Y H [.ref a] [v] Q I (.cons b .nil) #[a,vs,rfl,?_];rcases k1 with k1|k1
 .exact .inl #[hK▸k1,q.tup k2]
 .exact .inr #[hK▸k1,q.plain (A9.mpr #[a,vs,rfl,k1,k2])]
theorem QC:∀{ps:List P} {bs:List Bool} {vs:List V},Cv P.EN ps=some bs->Cw W H ps vs->vs=bs.map V.bl
 |[],bs,vs,e,h=>by cases e;cases h;rfl
 | p::ps,bs,vs,e,h=>by
   rintro⟨z,e1,e⟩:Ab e;rintro⟨zs,e2,rfl⟩:AU e;cases P.FF e1;cases h with
   |cons h1 h2=>cases Cz.mp h1;rw[QC e2 h2];rfl
theorem Yk(d:X.calm=true):Hl X (λv=>call (.builtin "all") [v]) (BZ W Ff):=by
 rintro p0 s Y H x v Q I b ⟨f,c,h1,e,q⟩
 rintro⟨ps,e1,e⟩:Ab e;rintro⟨bs,e2,rfl⟩:AU e;rintro⟨a,vs,rfl,k1,k2⟩:Bn e1 h1;cases QC e2 k2;exact Kh d p0 s Y H [.ref a] [v] Q I (.cons b .nil) #[a,bs,rfl,.inl k1,q.bl]
theorem Yl:Hl X (λv=>call (.builtin "abs") [v]) (BZ W (He TQ)):=by
 rintro p0 s Y H x v Q I a ⟨d,c,h1,e,q⟩
 rintro⟨i,b,e⟩:Ab e;rintro⟨p,ep,rfl⟩:AU e;cases ep;cases C.AW b;cases AZ h1;exact Qw p0 s Y H [.int i] [v] Q I (.cons a .nil) #[i,rfl,q.int]
theorem KH{x:Str}{acc:Array Value}(h:ItemsOf (SignAt x) acc x.cps.size):∃vs,Vals vs acc.toList/\∀{W:Wd} {H:Hp},Cw W H (signs x) vs:=by
 have gen:∀(l:List Nat) (us:List Value),us.length=l.length->(∀(j:Nat) (u:Value),us[j]? =some u->∃(c:Nat) (t:Tok),l[j]? =some c/\u=Value.str #[[c].toArray] t)->Vals (l.map λc=>V.str #[[c].toArray]) us/\∀{W:Wd} {H:Hp},Cw W H (l.map sign) (l.map λc=>V.str #[[c].toArray]):=by
  intro l
  induction l with
  |nil=>intro us hl _;cases List.eq_nil_of_length_eq_zero hl;exact#[.nil,.nil]
  |cons c l d=>
    intro us hl b;cases us with
    |nil=>cases hl
    |cons u us=>
      rintro⟨f,e⟩:d us (by simpa using hl) λj u a=>b (j+1) u a
      rintro⟨c',t,e1,rfl⟩:b 0 u rfl;cases e1;exact#[.cons #[t,rfl] f,.cons (AJ.mpr rfl) e]
 rintro⟨g1,g2⟩:gen x.cps.toList acc.toList (by simp[h.1]) λj u a=>by
  rintro⟨c,t,e1,e2⟩:h.2 j u (by simpa using a);exact#[c,t,by simpa using e1,e2]
 exact#[_,g1,g2]
theorem Rc(d:X.calm=true){p0:Oa}{s:Shared}{Y:L2.St}{z:Str}{Q:VK}(I:∅)(b:RelV (.str z) v)(hl:z.length<=big)(q:Cc W H (nw (signs z)) Q):(X|||(call (.type "list") [v])) (EP X p0 Y Q) X.xe s:=by
 rintro⟨t,rfl⟩:b;refine call_list_str (I.ok.hd d) z t (λh' tk acc c' kp e hi=>?_) (Nat.le_trans hl Bw);rintro⟨vs,a,c⟩:KH hi;refine#[.ref s.heap.objs.size,_,I.laid (t':=tk) (o:=.lst vs) kp (Nat.le_refl _) #[?_,acc.toList,c',a,by rw[e]],rfl,q.list c _ (I.Aj.fresh (Nat.le_refl _))];have:=Vals.length a;have h2:=hi.1;have:=Bw;have f:acc.toList.length=z.length:=by simp[h2,Str.length]
 lia
end
section
variable{ct:Ct}{k:Nat}
theorem Pd.Hg{α β:Type}{F:α->β->Prop}{xs:List α}{ys:List β}{i:Nat}{y:β}(h:Paired F xs ys)(e:ys[i]? =some y):∃x,xs[i]? =some x/\F x y:=by
 rintro⟨x,h1,h2⟩:Pd.get (Pd.flip h) e;exact#[x,h1,h2]
theorem Jk{L:Frag->Hp->Addr->List V->Prop}{ps:List P}(d:∀H,Dk W H c (.ref a)->∃vs,L W.K H a vs/\Cw W H ps vs):
 Walk W #[λi H=>∃xs x,L W.K H a xs/\xs[i]? =some x,λi H x H'=>H'=H/\∀xs,L W.K H a xs->xs[i]? =some x,λi H=>∃xs,L W.K H a xs/\xs.length<=i] ps (λH=>Dk W H c (.ref a)) where
 go:=λi H h hi=>by
   rintro⟨vs,h1,h2⟩:d H h;rintro⟨v,e,_⟩:Pd.get h2 (List.getElem?_eq_getElem hi);exact#[vs,v,h1,e]
 LS:=λi H x H' h hi b=>by
  rintro⟨vs,h1,h2⟩:d H h;rintro⟨rfl,b⟩:b;rintro⟨p,e,f⟩:Pd.Hg h2 (b vs h1);exact#[Dd.refl _,p,e,f]
 stop:=λH h=>by
  rintro⟨vs,h1,h2⟩:d H h;exact#[vs,h1,by rw[Paired.length h2];exact Nat.le_refl _]
theorem NV{g:Hp->Prop}:Walk W (dI y) (signs y) g where
 go:=λi H _ hi=>by
   show i < y.length;simpa[signs,Str.length]using hi
 LS:=λi H x H' _ hi a=>by
  rintro⟨rfl,c,e,rfl⟩:a;refine#[Dd.refl _,sign c,?_,AJ.mpr rfl];show(y.cps.toList.map sign)[i]? =_;rw[List.getElem?_map,Array.getElem?_toList,e];rfl
 stop:=λH _=>by
  show y.length<=_;simp[signs,Str.length]
variable{H:Hp}
theorem M9{c:C}{ps:List P}(e:c.FK =some ps)(h:Dk W H c (.ref a)):∃vs,DP W.K H a vs/\Cw W H ps vs:=by
 rintro⟨b,vs,d,h1,h2⟩:Bn e h;cases d;exact#[vs,.inl h1,h2]
theorem RR{c:C}{ps:List P}(e:c.CL =some ps)(h:Dk W H c (.ref a)):∃vs,D2 W.K H a vs/\Cw W H ps vs:=by
 cases C.Bs e;rintro⟨b,vs,d,h1,h2⟩:CH h;cases d;exact#[vs,h1,h2]
theorem S8(L:Bb ct X W cf k){tg:Expr}{tl:TE}(hl:PE X l tl):PI X tg l (wI W AM tl):=by
 intro p0 s Y H R I h;refine AS (hl p0 s Y H _ I h) λv s1 ⟨x,H1,d,f,c,ps,g,u,q⟩=>?_
 have fp:∀b∈[s1.heap.objs.size],Fh X p0 H1 b:=λb m=>by
  rw[mE m];exact d.Lq (Nat.le_refl _) (d.Aj.fresh (Nat.le_refl _))
 rcases or_some u with e|e
 .rcases or_some e with e|e
  .obtain⟨a,vs,rfl,k1,k2⟩:=Bn e g;cases f;rintro⟨its,j,p,hz⟩:d.list (.inl k1);have w:=Jk (W:=W) (L:=DP) (a:=a) (c:=c) (ps:=ps) λH h=>M9 e h
   rw[L.K]at w;exact wpAny_pyIter_list p.isList #[s1.heap.objs.size,[s1.heap.objs.size],_,_,H1,rfl,d.kept (t':=s1.toks) λb o e=>gP e,MT a _,#[_,Heap.get?_push_size _ rfl,rfl,rfl],fp,q _ w]
  .cases C.Bs e;rintro⟨a,vs,rfl,k1,k2⟩:CH g;cases f;rintro⟨its,j,p,hz⟩:d.tuple (L.K▸k1);have w:=Jk (W:=W) (L:=D2) (a:=a) (c:=.p (.tup ps)) (ps:=ps) λH h=>RR e h
   rw[L.K]at w;exact wpAny_pyIter_tuple (show s1.heap.IsTuple a its.toArray from p) #[s1.heap.objs.size,[s1.heap.objs.size],_,_,H1,rfl,d.kept (t':=s1.toks) λb o e=>gP e,Kx a _,#[_,Heap.get?_push_size _ rfl,rfl,rfl],fp,q _ w]
 .obtain⟨qs,f1,f2⟩:=Ab e;rintro⟨i,rfl⟩:A3 f2;rintro⟨z,r,n⟩:Ab (show(c.BN.bind λx=>if x.length<=big then some (signs x)else none)=some qs from f1);rintro⟨hl,rfl⟩:A3 n;cases C.Bt r;cases BI g;rintro⟨t,rfl⟩:f;have i:z.cps.all (· < 128)=true:=i;exact wpAny_pyIter_ascii i #[s1.heap.objs.size,[s1.heap.objs.size],_,_,H1,rfl,d.kept (t':=s1.toks) λb o e=>gP e,NZ _ z t,#[_,Heap.get?_push_size _ rfl,rfl,rfl],fp,q _ NV]
theorem NW{n:Int}{g:Hp->Prop}:Walk W (aE 0 n.toNat) (Az 0 n) g where
 go:=λi H _ hi=>by
   show i < n.toNat;simpa[Az]using hi
 LS:=λi H x H' _ hi a=>by
  rintro⟨rfl,rfl⟩:a;refine#[Dd.refl _,_,?_,Aa.mpr rfl];have hi:i < n.toNat:=by simpa[Az]using hi
  simp[Az,hi]
 stop:=λH _=>by
  show n.toNat<=_;simp[Az]
def Sh(r:V->Hp->Prop):List V->Hp->Prop
 |[v],H=>r v H
 |_,_=>False
theorem ID{r:V->Hp->Prop}{vs:List V}(h:Sh r vs H):∃v,vs=[v]/\r v H:=by
 rcases vs with _|⟨v,_|⟨_,_⟩⟩
 .exact h.elim
 .exact#[v,rfl,h]
 .exact h.elim
variable{pos:Pos}{ta:TE}
theorem W7(L:Bb ct X W cf k){tg:Expr}(i:ct.own x=true)(g:x="range")(st:A7 a=true)(l:PE X a ta):PI X tg (.Call (.Name x p) [a] [] pos) (wI W DQ ta):=by
 subst g;rintro⟨g1,g2,g3,w⟩:L.EV i;intro p0 s Y H R I h;refine Call_ (CJ I g1 g2 boot_range (PyProof.Rows.callWith_type1 (AS ((AB l Bv (A2 st [] _)) pos p0 s Y H (Sh λv H1=>∃c xs,Dk W H1 c v/\DQ c=some xs/\∀J,Walk W J xs (λH=>Dk W H c v)->R J H1) I h) λus s1 ⟨vs,H1,o,f,b⟩=>?_) (A2 st [] _) rfl));rintro⟨v,rfl,b⟩:ID b
 .obtain⟨c,ps,j,d,q⟩:=b;rintro⟨n,m,d⟩:Ab d;rintro⟨u,rfl⟩:A3 d;cases C.AW m;cases AZ j;cases f with
  |cons r e=>
    cases e;rintro⟨t,rfl⟩:r;have:=q _ NW;exact call_range_1 (JE o (by lia) (by lia) (by lia) (by lia) (by simpa using this))
def dM(K:Frag)(l:Addr):It:=
 #[λi H=>∃xs x,DP K H l xs/\xs[i]? =some x,λi H x H'=>∃p y,x= .ref p/\H p=none/\H'=upd H p (.tup [.int i,y])/\∀xs,DP K H l xs->xs[i]? =some y,λi H=>∃xs,DP K H l xs/\xs.length<=i]
theorem SY{p0:Oa}{Y:L2.St}{s:Shared}{h':Heap}{t':Nat}{e it:Addr}{o:HO}(I:∅)(k:∀b o,b≠e->b≠it->s.heap.get? b=some o->h'.get? b=some o)
 (i:H e=none/\e≠X.env.locals/\(e∈X.ex\/X.s₀.heap.objs.size<=e)/\(∀x c,X.env.cells.lookup x=some c->c≠e)/\∀p∈X.pn++p0,p.1≠e)
 (g:H it=none/\it≠X.env.locals/\(it∈X.ex\/X.s₀.heap.objs.size<=it)/\(∀x c,X.env.cells.lookup x=some c->c≠it)/\∀p∈X.pn++p0,p.1≠it)
 (new:Br X.prog X.w (upd H s.heap.objs.size o) h' s.heap.objs.size o):Inv X p0 Y (upd H s.heap.objs.size o) {s with heap:=h',toks:=t'}:=by
 have fr:=I.Aj.fresh (Nat.le_refl s.heap.objs.size);have d:∀b u,H b=some u->b≠e/\b≠it:=λb u q=>#[λz=>(by rw[z,i.1]at q;cases q),λz=>(by rw[z,g.1]at q;cases q)]
 have nf:∀b u,H b=some u->upd H s.heap.objs.size o b=some u:=λb u q=>by rw[A4 (AI q fr)];exact q
 have kk:∀b o,b∉[e,it]->s.heap.get? b=some o->h'.get? b=some o:=λb o a q=>k b o (λz=>a (by simp[z])) (λz=>a (by simp[z])) q
 refine I.step (g':=s.gens) (d':=s.drawn) (ch:=[e,it]) (λb f=>?_) (λb o _ _ a q _=>kk b o a q) (λb o _ _ a q _=>#[o.slots,kk b o a q]) (λb o' _ q n=>by rw[A4 (Nat.ne_of_lt (hZ q))];exact n)
  (λb o a q=>#[o,kk b o a q]) (λ_ _ q=>nf _ _ q) (λ_ _ _ q=>nf _ _ q) (λb ps q=>#[[].toArray,by rw[nf _ _ q];simp]) (λm hm=>?_) (λb u q=>?_) I.bare
 .rcases mem_cons.mp f with rfl|f
  .exact#[i.2.2.1,i.2.1,i.2.2.2]
  .cases mE f;exact#[g.2.2.1,g.2.1,g.2.2.2]
 .obtain⟨o,es,ep,j,r⟩:=hm;exact#[o,es,ep,k _ o (Ne.symm i.2.1) (Ne.symm g.2.1) j,r]
 .by_cases f:b=s.heap.objs.size
  .subst f;rw[A6]at q;cases q;exact new
  .rw[A4 f]at q;refine(I.Aj b u q).H9 (λc v a z=>?_) (λc z=>nf _ _ z) λ_ _ z=>nf _ _ z
   rcases a with y|y
   .rw[y]at z ⊢;exact k b v (d b u q).1 (d b u q).2 z
   .exact k c v (d c _ y).1 (d c _ y).2 z
theorem MU{P:Program}{w:World}{K:Frag}{es:List Expr}{n:Nat}{J:Pos}(l it e:Addr)(f:e≠it):Turn P w K (.Tuple es n J) (dM K l) [e,it] e (λi h=>(∃old,IsEnum h e it i old)/\h.IsListIter it l i) where
 mem:=by simp
 obj :=λi h st b a=>by
  rintro⟨⟨old,h1⟩,o,h2,c,d⟩:st;rcases mem_cons.mp a with rfl|a
  .exact#[_,h1,λv z=>by cases z]
  .cases mE a;exact#[o,h2,λv z=>by rw[d]at z;cases z]
 keep:=λi h h' st k=>#[st.1.imp λold h1=>k e (by simp) _ h1,st.2.at λo q=>k it (by simp) o q]
 item:=by
  intro X r hw hK G i p0 s Y H E I hf st m;subst r hw hK;rintro⟨xs,x,hq,j⟩:m;rintro⟨its,g,p,hz⟩:I.list hq;rintro⟨u,Q,L⟩:g.get j;rintro⟨⟨old,h1⟩,h2⟩:st;refine wpAny_pyNext_enum_item h1 h2 p.isList (x:=u) (by simpa using Q) f λh' a1 a2 a3 a4 a5=>#[_,rfl,?_]
  refine wpAny_letOwnedTupleGo_enum (s:={s with heap:=h',toks:=s.toks+1}) a1 λR b1 A=>?_
  rintro⟨f0,f1,f2,y,f4,t⟩:hf e (by simp);rintro⟨V,g1,g2,g3,T,S⟩:hf it (by simp);have I2:Inv X p0 Y (upd H s.heap.objs.size (.tup [.int i,x])) {s with heap:=R,toks:=s.toks+1}:=SY I (λb o F M q=>A.extBut b o F (a5 b o F M q)) #[f0,f1,y,f4,t] #[V,g1,g3,T,S] #[by simp[sizeLine],[.int i s.toks,u],.cons #[_,rfl] (.cons L .nil),_,A.extBut _ _ (Nat.ne_of_gt (hZ h1)) a3,rfl,_,rfl];have fr:=I.Aj.fresh (Nat.le_refl s.heap.objs.size);have hit:it < s.heap.objs.size:=by rintro⟨o,q,_⟩:id h2;exact hZ q
  refine#[.ref s.heap.objs.size,_,I2,rfl,#[_,x,rfl,fr,rfl,λys N=>by rw[I.JT N hq];exact j],#[#[u,b1],a2.extBut A.extBut (Ne.symm f)],λb a=>?_]
  have:b≠s.heap.objs.size:=by
   rcases mem_cons.mp a with rfl|a
   .exact Nat.ne_of_lt (hZ h1)
   .rw[mE a];exact Nat.ne_of_lt hit
  rw[A4 this];exact(hf b a).1
 done:=by
  intro X r hw hK G i p0 s Y H E I hf st m;subst r hw hK;rintro⟨xs,hq,j⟩:m;rintro⟨its,g,p,hz⟩:I.list hq;rintro⟨⟨old,h1⟩,h2⟩:st;rintro⟨f0,f1,f2,y,f4,t⟩:hf it (by simp);have hl:=g.length;exact wpAny_pyNext_enum_end (I.ok.hd G) h1 h2 p.isList (by simp;lia) λh' Z=>#[rfl,I.turned (t':=s.toks) (λb o a e=>Z b o a e) f0 f1 y f4 t]
 self:=λ_ _ _ _ _ st h=>let⟨⟨_,h1⟩,_⟩:=st;wpAny_pyIter_enum h1 h
theorem Qh{ps:List P}{i:Nat}{p:P}(h:ps[i]? =some p):(DW ps)[i]? =some (.tup [.int i,p]):=by
 simp[DW,h]
theorem MS{ps:List P}(d:∀H,Dk W H c (.ref a)->∃vs,DP W.K H a vs/\Cw W H ps vs):Walk W (dM W.K a) (DW ps) (λH=>Dk W H c (.ref a)) where
 go:=λi H h hi=>by
   rintro⟨vs,h1,h2⟩:d H h;rintro⟨v,e,_⟩:Pd.get h2 (List.getElem?_eq_getElem (by simpa[DW]using hi));exact#[vs,v,h1,e]
 LS:=λi H x H' h hi b=>by
  rintro⟨vs,h1,h2⟩:d H h;rintro⟨p,y,rfl,f,rfl,b⟩:b;rintro⟨z,e,g⟩:Pd.Hg h2 (b vs h1);have sm:=Ar (o:=.tup [.int i,y]) f;exact#[sm,_,Qh e,A9.mpr #[p,_,rfl,D2.of A6,.cons (Aa.mpr rfl) (.cons (g.mono (AH.of sm)) .nil)]]
 stop:=λH h=>by
  rintro⟨vs,h1,h2⟩:d H h;exact#[vs,h1,by simp[DW,Paired.length h2]]
theorem TB:bootBuiltins "enumerate"=some (.type "enumerate"):=by decide +kernel
theorem Wc(L:Bb ct X W cf k){tg:Expr}(t:Cb tg=true)(u:ct.own x=true)(o:x="enumerate")(st:A7 a=true)(z:PE X a ta):PI X tg (.Call (.Name x p) [a] [] pos) (wI W J0 ta):=by
 subst o;rintro⟨g1,g2,g3,N⟩:L.EV u;intro p0 s Y H R I h;refine Call_ (CJ I g1 g2 TB (PyProof.Rows.callWith_type1 (AS ((AB z Bv (A2 st [] _)) pos p0 s Y H (Sh λv H1=>∃c xs,Dk W H1 c v/\J0 c=some xs/\∀J,Walk W J xs (λH=>Dk W H c v)->R J H1) I h) λus s1 ⟨vs,H1,e,i,j⟩=>?_) (A2 st [] _) rfl));rintro⟨v,rfl,c,ps,y,A,q⟩:ID j;rintro⟨qs,f,rfl⟩:AU A;rintro⟨l,vs,rfl,k1,k2⟩:Bn f y;cases i with
 |cons r g=>
   cases g;cases r;rintro⟨its,M,m,hz⟩:e.list (.inl k1);have w:=MS (W:=W) (a:=l) (c:=c) (ps:=qs) λH h=>M9 f h
   rw[L.K]at w;cases tg with
   |Tuple es n G=>
     refine call_enumerate_list m.isList λh' e1 e2 P E=>wpAny_pyIter_enum (s:={s1 with heap:=h'}) e1 ?_
     have F:Inv X p0 Y H1 {s1 with heap:=h'}:=e.kept (t':=s1.toks) E;refine#[s1.heap.objs.size+1,[s1.heap.objs.size+1,s1.heap.objs.size],_,_,H1,rfl,F,MU l s1.heap.objs.size _ (by lia),#[#[_,e1],e2],λb d=>?_,q _ w]
     have d:s1.heap.objs.size<=b:=by
      rcases mem_cons.mp d with rfl|d
      .lia
      .rw[mE d];exact Nat.le_refl _
     exact e.Lq d (e.Aj.fresh d)
   |_=>cases t
end
end Nv
namespace PySem
open Sem (wp)
open AutoSeq1 (wpAny_loadPart')
open PyProof.Rows
section
variable{prog:Program}{w:World}{A:Around}{E:Va}{s:Shared}
def De(prog:Program)(w:World)(s:Shared)(v:Value):Prop:=∀(A:Around) (E:Va) (Q:Bool->Shared->Prop),Q true s->wpAny (model prog w) A (eqIsQuiet 8 v) Q E s
variable{key:Value}
theorem DU{stored:List Value}(c:De prog w s key)(hs:∀v∈stored,De prog w s v){Q:Bool->Shared->Prop}(h:Q false s):wpAny (model prog w) A (tableMayTell key stored) Q E s:=by
 unfold tableMayTell;refine wpAny_ite_split (λ_=>wpAny_pure h) (λ_=>?_);refine wB (c _ _ _ ?_);refine xN (by decide) ?_;refine wB ?_;refine wpAny_forIn_list _ (λrest b s'=>(∀v∈rest,De prog w s v)/\b=(none,())/\s'=s) _ ?_ ?_ _ _ #[hs,rfl,rfl]
 .rintro x rest b s' ⟨hm,rfl,rfl⟩
  refine wB (hm x mS _ _ _ ?_);refine xN (by decide) (wpAny_pure ?_);exact#[λv a=>hm v (mem_cons_of_mem _ a),rfl,rfl]
 .rintro b s' ⟨_,rfl,rfl⟩
  exact wpAny_pure h
theorem Ao{es:Array DictEntry}{h:Int}{i:Nat}(hi:i∈(~~~es) h):∃e,es[i]? =some e/\e.hash=h:=by
 unfold placesWithHash at hi;rintro⟨h1,h2⟩:mem_filter.mp hi;have h1:=mem_range.mp h1;refine#[es[i],Array.getElem?_eq_getElem h1,?_];have h2:(Option.map (λx=>x.hash) es[i]? == some h)=true:=h2;rw[Array.getElem?_eq_getElem h1]at h2;have h2:(some es[i].hash == some h)=true:=h2;exact Option.some.inj (eq_of_beq h2)
theorem C2{es:Array DictEntry}{h:Int}{i:Nat}{e:DictEntry}(he:es[i]? =some e)(a:e.hash=h):i∈(~~~es) h:=by
 unfold placesWithHash;refine mem_filter.mpr #[mem_range.mpr (Array.getElem?_eq_some_iff.mp he).1,?_];show(Option.map (λx=>x.hash) es[i]? == some h)=true;rw[he];show(some e.hash == some h)=true;rw[a];exact beq_self_eq_true _
theorem Iy{es:Array DictEntry} :((~~~es) h).Nodup:=by
 unfold placesWithHash;exact List.Pairwise.filter _ List.nodup_range
theorem Qd{h:Int}{o:Obj}{es:Array DictEntry}{ep:Nat}{b:Nat->Bool}{Q:Option Nat->Shared->Prop}
 (hd:s.heap.get? d=some o)(I:o.data= .dict es ep)(O:(∃n t,key= .int n t)\/∃a,key= .ref a)
 (N:(es.any λe=>e.key == key && e.hash != h)=false)
 (eqs:∀i e,es[i]? =some e->e.hash=h->SeqAt.EqAt A s e.key key (b i))
 (hq:De prog w s key)(hs:∀(i:Nat) (e:DictEntry),es[i]? =some e->De prog w s e.key)
 (one:∀i j e f,es[i]? =some e->es[j]? =some f->e.hash=h->f.hash=h->b i=true->b j=true->i=j)
 (L:(∀i e,es[i]? =some e->e.hash=h->b i=false)->Q none s)
 (J:∀i e,es[i]? =some e->e.hash=h->b i=true->Q (some i) s):wpAny (model prog w) A (dictFind d key h) Q E s:=by
 unfold dictFind;refine wpAny_holding ?_;refine wB (wpAny_dictEntries hd I ?_)
 have plain:wpAny (model prog w) A (dictWalkPlain d key h es ((~~~es) h)) Q E s:=by
  unfold dictWalkPlain;refine wB ?_;refine wpAny_forIn_list _ (λrest st s'=>s'=s/\st=(none,())/\(∀i∈rest,i∈(~~~es) h)/\∀i∈(~~~es) h,i∉rest->b i=false) _ ?_ ?_ _ _ #[rfl,rfl,λi hi=>hi,λi hi D=>absurd hi D]
  .rintro i rest st s' ⟨rfl,rfl,hm,hf⟩
   rintro⟨e,he,p⟩:Ao (hm i mS);simp only[he,p,beq_self_eq_true,if_true];refine wB (wpAny_dictEpoch hd I ?_);refine wB (eqs i e he p prog w _ _ ?_);refine wB (wpAny_dictEpoch hd I ?_);refine xN (by simp) ?_;refine wpAny_ite_split (λu=>?_) (λu=>?_)
   .exact wB (wpAny_rule (wpAny_pure (wpAny_pure (J i e he p u))))
   .refine wB (wpAny_rule (wpAny_pure #[rfl,rfl,λj g=>hm j (mem_cons_of_mem _ g),λj g C=>?_]))
    by_cases H:j=i
    .rw[H];simpa using u
    .exact hf j g (by simp[H,C])
  .rintro st s' ⟨rfl,rfl,_,hf⟩
   exact wpAny_pure (L λi e he p=>hf i (C2 he p) (by simp))
 have nodup:=Iy (es:=es) (h:=h)
 have K:∀v∈List.filterMap (λi=>Option.map (λx=>x.key) es[i]?) ((~~~es) h),De prog w s v:=by
  intro v M;rintro⟨i,hi,e⟩:mem_filterMap.mp M;rintro⟨f,m,q⟩:Ao hi;rw[m]at e;have e:f.key=v:=Option.some.inj e;rw[<-e];exact hs i f m
 rcases O with⟨n,t,rfl⟩|⟨a,rfl⟩
 .try dsimp only
  refine wpAny_ite_split (λ_=>plain) (λ_=>?_);refine wpAny_ite_split (λ_=>?_) (λ_=>?_)
  .refine wB (wpAny_pure ?_);refine xN (by simp) ?_;refine wB ?_
   refine wpAny_forIn_list _ (λrest st s'=>s'=s/\st.1=none/\rest.Nodup/\(∀i∈rest,i∈(~~~es) h)/\
    ((st.2=none/\∀i∈(~~~es) h,i∉rest->b i=false)\/∃j,st.2=some j/\j∈(~~~es) h/\j∉rest/\b j=true)) _ ?_ ?_ _ _
    #[rfl,rfl,nodup,λi hi=>hi,.inl #[rfl,λi hi D=>absurd hi D]]
   .rintro i rest ⟨F,hit⟩ s' ⟨rfl,c,G,hm,hf⟩
    have c:F=none:=c;subst c;rintro⟨e,he,p⟩:Ao (hm i mS);simp only[he,p,beq_self_eq_true,if_true];refine wB (wpAny_dictEpoch hd I ?_);refine wB (eqs i e he p prog w _ _ ?_);refine wB (wpAny_dictEpoch hd I ?_);refine xN (by simp) ?_;have k:=nodup_cons.mp G;refine wpAny_ite_split (λu=>?_) (λu=>?_)
    .have B:hit=none:=by
      rcases hf with⟨z,_⟩|⟨j,z,g,r,l⟩
      .exact z
      .obtain⟨f,m,q⟩:=Ao g;have:=one i j e f he m p q u l;exact absurd (this▸mS) r
     subst B;refine xN (by simp) ?_;refine wB (wpAny_rule ?_);refine wpAny_ite_split (λ_=>wpAny_pure (wpAny_pure (J i e he p u))) (λ_=>wpAny_pure #[rfl,rfl,k.2,λj g=>hm j (mem_cons_of_mem _ g),.inr #[i,rfl,hm i mS,k.1,u]])
    .refine wB (wpAny_rule ?_);refine xN (by simp) (wpAny_pure #[rfl,rfl,k.2,λj g=>hm j (mem_cons_of_mem _ g),?_]);rcases hf with⟨z,hf⟩|⟨j,z,g,r,l⟩
     .refine .inl #[z,λj g C=>?_]
      by_cases H:j=i
      .rw[H];simpa using u
      .exact hf j g (by simp[H,C])
     .exact .inr #[j,z,g,λy=>r (mem_cons_of_mem _ y),l]
   .rintro⟨F,hit⟩ s' ⟨rfl,c,_,_,hf⟩
    have c:F=none:=c;subst c;rcases hf with⟨z,hf⟩|⟨j,z,g,_,l⟩
    .have z:hit=none:=z;subst z;exact wpAny_pure (L λi e he p=>hf i (C2 he p) (by simp))
    .have z:hit=some j:=z;subst z;rintro⟨f,m,q⟩:Ao g;exact wpAny_pure (J j f m q l)
  .refine wB (DU hq K ?_);refine xN (by simp) ?_;refine wB ?_
   refine wpAny_forIn_list _ (λrest st s'=>s'=s/\st.1=none/\rest.Nodup/\(∀i∈rest,i∈(~~~es) h)/\
    ((st.2=none/\∀i∈(~~~es) h,i∉rest->b i=false)\/∃j,st.2=some j/\j∈(~~~es) h/\j∉rest/\b j=true)) _ ?_ ?_ _ _
    #[rfl,rfl,nodup,λi hi=>hi,.inl #[rfl,λi hi D=>absurd hi D]]
   .rintro i rest ⟨F,hit⟩ s' ⟨rfl,c,G,hm,hf⟩
    have c:F=none:=c;subst c;rintro⟨e,he,p⟩:Ao (hm i mS);simp only[he,p,beq_self_eq_true,if_true];refine wB (wpAny_dictEpoch hd I ?_);refine wB (eqs i e he p prog w _ _ ?_);refine wB (wpAny_dictEpoch hd I ?_);refine xN (by simp) ?_;have k:=nodup_cons.mp G;refine wpAny_ite_split (λu=>?_) (λu=>?_)
    .have B:hit=none:=by
      rcases hf with⟨z,_⟩|⟨j,z,g,r,l⟩
      .exact z
      .obtain⟨f,m,q⟩:=Ao g;have:=one i j e f he m p q u l;exact absurd (this▸mS) r
     subst B;refine xN (by simp) ?_;refine wB (wpAny_rule ?_);refine wpAny_ite_split (λ_=>wpAny_pure (wpAny_pure (J i e he p u))) (λ_=>wpAny_pure #[rfl,rfl,k.2,λj g=>hm j (mem_cons_of_mem _ g),.inr #[i,rfl,hm i mS,k.1,u]])
    .refine wB (wpAny_rule ?_);refine xN (by simp) (wpAny_pure #[rfl,rfl,k.2,λj g=>hm j (mem_cons_of_mem _ g),?_]);rcases hf with⟨z,hf⟩|⟨j,z,g,r,l⟩
     .refine .inl #[z,λj g C=>?_]
      by_cases H:j=i
      .rw[H];simpa using u
      .exact hf j g (by simp[H,C])
     .exact .inr #[j,z,g,λy=>r (mem_cons_of_mem _ y),l]
   .rintro⟨F,hit⟩ s' ⟨rfl,c,_,_,hf⟩
    have c:F=none:=c;subst c;rcases hf with⟨z,hf⟩|⟨j,z,g,_,l⟩
    .have z:hit=none:=z;subst z;exact wpAny_pure (L λi e he p=>hf i (C2 he p) (by simp))
    .have z:hit=some j:=z;subst z;rintro⟨f,m,q⟩:Ao g;exact wpAny_pure (J j f m q l)
 .try dsimp only
  refine wpAny_ite_split (λ_=>plain) (λ_=>?_);rw[N];refine xN (by simp) ?_;refine wpAny_ite_split (λ_=>?_) (λ_=>?_)
  .refine wB (wpAny_pure ?_);refine xN (by simp) ?_;refine wB ?_
   refine wpAny_forIn_list _ (λrest st s'=>s'=s/\st.1=none/\rest.Nodup/\(∀i∈rest,i∈(~~~es) h)/\
    ((st.2=none/\∀i∈(~~~es) h,i∉rest->b i=false)\/∃j,st.2=some j/\j∈(~~~es) h/\j∉rest/\b j=true)) _ ?_ ?_ _ _
    #[rfl,rfl,nodup,λi hi=>hi,.inl #[rfl,λi hi D=>absurd hi D]]
   .rintro i rest ⟨F,hit⟩ s' ⟨rfl,c,G,hm,hf⟩
    have c:F=none:=c;subst c;rintro⟨e,he,p⟩:Ao (hm i mS);simp only[he,p,beq_self_eq_true,if_true];refine wB (wpAny_dictEpoch hd I ?_);refine wB (eqs i e he p prog w _ _ ?_);refine wB (wpAny_dictEpoch hd I ?_);refine xN (by simp) ?_;have k:=nodup_cons.mp G;refine wpAny_ite_split (λu=>?_) (λu=>?_)
    .have B:hit=none:=by
      rcases hf with⟨z,_⟩|⟨j,z,g,r,l⟩
      .exact z
      .obtain⟨f,m,q⟩:=Ao g;have:=one i j e f he m p q u l;exact absurd (this▸mS) r
     subst B;refine xN (by simp) ?_;refine wB (wpAny_rule ?_);refine wpAny_ite_split (λ_=>wpAny_pure (wpAny_pure (J i e he p u))) (λ_=>wpAny_pure #[rfl,rfl,k.2,λj g=>hm j (mem_cons_of_mem _ g),.inr #[i,rfl,hm i mS,k.1,u]])
    .refine wB (wpAny_rule ?_);refine xN (by simp) (wpAny_pure #[rfl,rfl,k.2,λj g=>hm j (mem_cons_of_mem _ g),?_]);rcases hf with⟨z,hf⟩|⟨j,z,g,r,l⟩
     .refine .inl #[z,λj g C=>?_]
      by_cases H:j=i
      .rw[H];simpa using u
      .exact hf j g (by simp[H,C])
     .exact .inr #[j,z,g,λy=>r (mem_cons_of_mem _ y),l]
   .rintro⟨F,hit⟩ s' ⟨rfl,c,_,_,hf⟩
    have c:F=none:=c;subst c;rcases hf with⟨z,hf⟩|⟨j,z,g,_,l⟩
    .have z:hit=none:=z;subst z;exact wpAny_pure (L λi e he p=>hf i (C2 he p) (by simp))
    .have z:hit=some j:=z;subst z;rintro⟨f,m,q⟩:Ao g;exact wpAny_pure (J j f m q l)
  .refine wB (DU hq K ?_);refine xN (by simp) ?_;refine wB ?_
   refine wpAny_forIn_list _ (λrest st s'=>s'=s/\st.1=none/\rest.Nodup/\(∀i∈rest,i∈(~~~es) h)/\
    ((st.2=none/\∀i∈(~~~es) h,i∉rest->b i=false)\/∃j,st.2=some j/\j∈(~~~es) h/\j∉rest/\b j=true)) _ ?_ ?_ _ _
    #[rfl,rfl,nodup,λi hi=>hi,.inl #[rfl,λi hi D=>absurd hi D]]
   .rintro i rest ⟨F,hit⟩ s' ⟨rfl,c,G,hm,hf⟩
    have c:F=none:=c;subst c;rintro⟨e,he,p⟩:Ao (hm i mS);simp only[he,p,beq_self_eq_true,if_true];refine wB (wpAny_dictEpoch hd I ?_);refine wB (eqs i e he p prog w _ _ ?_);refine wB (wpAny_dictEpoch hd I ?_);refine xN (by simp) ?_;have k:=nodup_cons.mp G;refine wpAny_ite_split (λu=>?_) (λu=>?_)
    .have B:hit=none:=by
      rcases hf with⟨z,_⟩|⟨j,z,g,r,l⟩
      .exact z
      .obtain⟨f,m,q⟩:=Ao g;have:=one i j e f he m p q u l;exact absurd (this▸mS) r
     subst B;refine xN (by simp) ?_;refine wB (wpAny_rule ?_);refine wpAny_ite_split (λ_=>wpAny_pure (wpAny_pure (J i e he p u))) (λ_=>wpAny_pure #[rfl,rfl,k.2,λj g=>hm j (mem_cons_of_mem _ g),.inr #[i,rfl,hm i mS,k.1,u]])
    .refine wB (wpAny_rule ?_);refine xN (by simp) (wpAny_pure #[rfl,rfl,k.2,λj g=>hm j (mem_cons_of_mem _ g),?_]);rcases hf with⟨z,hf⟩|⟨j,z,g,r,l⟩
     .refine .inl #[z,λj g C=>?_]
      by_cases H:j=i
      .rw[H];simpa using u
      .exact hf j g (by simp[H,C])
     .exact .inr #[j,z,g,λy=>r (mem_cons_of_mem _ y),l]
   .rintro⟨F,hit⟩ s' ⟨rfl,c,_,_,hf⟩
    have c:F=none:=c;subst c;rcases hf with⟨z,hf⟩|⟨j,z,g,_,l⟩
    .have z:hit=none:=z;subst z;exact wpAny_pure (L λi e he p=>hf i (C2 he p) (by simp))
    .have z:hit=some j:=z;subst z;rintro⟨f,m,q⟩:Ao g;exact wpAny_pure (J j f m q l)
end
end PySem
namespace Nv
open PySem L2 PyProof.Rows
def Ci(h:Heap)(d:Addr)(es:List DictEntry)(ep:Nat):Prop:=∃o,h.get? d=some o/\o.ExactDict/\o.data= .dict es.toArray ep
variable{s:Shared}{ep:Nat}
theorem Ci.typ{es:List DictEntry}(h:Ci s.heap d es ep):s.TypeIs (.ref d) "dict":=let⟨o,h1,h2,_⟩:=h;#[o,h1,h2.1]
theorem Ci.at'{h h':Heap}{es:List DictEntry}(x:Ci h d es ep)(k:∀o,h.get? d=some o->h'.get? d=some o):Ci h' d es ep:=let⟨o,h1,r⟩:=x;#[o,k o h1,r]
section
variable{prog:Program}{w:World}{A:Around}{E:Va}{s:Shared}
theorem Ao{es:Array DictEntry}{h:Int}{i:Nat}(hi:i∈(~~~es) h):∃e,es[i]? =some e/\e.hash=h:=by
 unfold placesWithHash at hi;rintro⟨h1,h2⟩:mem_filter.mp hi;have h1:=mem_range.mp h1;refine#[es[i],Array.getElem?_eq_getElem h1,?_];have h2:(Option.map (λx=>x.hash) es[i]? == some h)=true:=h2;rw[Array.getElem?_eq_getElem h1]at h2;have h2:(some es[i].hash == some h)=true:=h2;exact Option.some.inj (eq_of_beq h2)
theorem C2{es:Array DictEntry}{h:Int}{i:Nat}{e:DictEntry}(he:es[i]? =some e)(a:e.hash=h):i∈(~~~es) h:=by
 unfold placesWithHash;refine mem_filter.mpr #[mem_range.mpr (Array.getElem?_eq_some_iff.mp he).1,?_];show(Option.map (λx=>x.hash) es[i]? == some h)=true;rw[he];show(some e.hash == some h)=true;rw[a];exact beq_self_eq_true _
theorem Qb{d:Addr}{x:Str}{t:Tok}{h:Int}{o:Obj}{es:Array DictEntry}{ep:Nat}{Q:Option Nat->Shared->Prop}(hd:s.heap.get? d=some o)(c:o.data= .dict es ep)(f:∀(i:Nat) (e:DictEntry),es[i]? =some e->∃z t,e.key= .str z t)
 (j:(∀(i:Nat) (e:DictEntry),es[i]? =some e->∀t,e.key≠.str x t)->Q none s)(g:∀i e t,es[i]? =some e->e.key= .str x t->Q (some i) s):wpAny (model prog w) A (dictFind d (.str x t) h) Q E s:=by
 unfold dictFind;refine wpAny_holding (wB (wpAny_dictEntries hd c ?_));dsimp only;refine wpAny_ite_split (λ_=>?_) (λa=>absurd (Array.all_eq_true.mpr λi hi=>?_) a)
 .unfold foundByValue;cases hf:es.findIdx? (·.key.isStr x)with
  |none=>
    refine wpAny_pure (j λi e he t z=>?_);have:=Array.findIdx?_eq_none_iff.mp hf e (Array.mem_of_getElem? he);rw[z]at this;simp[Value.isStr]at this
  |some i=>
    rintro⟨hi,h1,_⟩:Array.findIdx?_eq_some_iff_getElem.mp hf;have he:es[i]? =some es[i]:=Array.getElem?_eq_getElem hi;dsimp only;rw[he];dsimp only;rintro⟨z,t',hz⟩:f i es[i] he;rw[hz]at h1 ⊢;have b:z=x:=by simpa[Value.isStr]using h1
    subst b;refine wB (wpAny_dictEpoch hd c ?_);refine wB (SeqAt.EqAt.str_str z t' z t prog w _ _ ?_);refine wB (wpAny_dictEpoch hd c ?_);refine xN (by simp) ?_;refine wpAny_ite_split (λ_=>?_) (λa=>absurd (by simp) a);exact wB (wpAny_rule (wpAny_pure (g i es[i] t' he hz)))
 .obtain⟨z,t',hz⟩:=f i es[i] (Array.getElem?_eq_getElem hi);rw[hz];rfl
end
variable{Pg:Program}{W:Wd}{H:Hp}
theorem Dx{kvs:List (P×P)}{k:P}(h:Bk kvs k=true):keyOk k=true/\∀q∈kvs,q.1.tag=k.tag:=by
 unfold Bk at h;rw[bA]at h;exact#[h.1,λq hq=>by simpa using all_eq_true.mp h.2 q hq]
theorem Ik{p:P}(h:p.tag=3):∃i,p= .str i:=by
 cases p<;>first|exact#[_,rfl]|cases h
theorem LY{p:P}(h:p.tag=4):∃i,p= .tup i:=by
 cases p<;>first|exact#[_,rfl]|cases h
theorem LZ{p:P}(h:p.tag=2):∃i,p= .int i:=by
 cases p<;>first|exact#[_,rfl]|cases h
theorem Eg:∀{ps:List P},(ps.all λp=>p.tag == 3)=true->∃xs:List Str,ps=xs.map .str
 |[],_=>#[[],rfl]
 | p::ps,h=>by
   rw[all_cons,bA]at h;rintro⟨x,rfl⟩:Ik (eq_of_beq h.1);rintro⟨xs,rfl⟩:Eg h.2;exact#[x::xs,rfl]
theorem GW:∀xs:List Str,Cv P.BN (xs.map .str)=some xs
 |[]=>rfl
 |x::xs=>by show((Cv P.BN (xs.map .str)).map (x::·))=_;rw[GW xs];rfl
theorem HP:∀xs ys:List Str,BA (xs.map .str) (ys.map .str)=true
 |[],_=>rfl
 |_::_,[]=>rfl
 |x::xs,y::ys=>by show(BM (.str x) (.str y) && BA (xs.map .str) (ys.map .str))=true;rw[HP xs ys];rfl
theorem GP:∀xs:List Str,P.Bi (xs.map .str)=0
 |[]=>rfl
 |x::xs=>by rw[map_cons,GQ,GP xs];rfl
theorem Ke{p q:P}(a:keyOk p=true)(hq:keyOk q=true)(e:p.tag=q.tag):BM p q=true/\p.depth<=1:=by
 cases p with
 |int i=>rintro⟨j,rfl⟩:LZ e.symm;exact#[rfl,Nat.zero_le _]
 |str i=>rintro⟨j,rfl⟩:Ik e.symm;exact#[rfl,Nat.zero_le _]
 |tup ps=>
   rintro⟨qs,rfl⟩:LY e.symm;rintro⟨xs,rfl⟩:Eg (show(ps.all λp=>p.tag == 3)=true from a);rintro⟨ys,rfl⟩:Eg (show(qs.all λp=>p.tag == 3)=true from hq);refine#[?_,by rw[HN,GP];exact Nat.le_refl _];unfold BM;show(_ || BA (xs.map .str) (ys.map .str))=true;rw[HP,Bool.or_true]
 |_=>cases a
theorem Hw(d:keyOk p=true)(c:A5 W H p v)(r:RelV v u)(Aj:DD Pg W.w H s.heap)(By:W.K.In s.heap):De Pg W.w s u:=by
 cases p with
 |int i=>cases Aa.mp c;rintro⟨t,rfl⟩:r;exact λA E Q q=>by rw[eqIsQuiet_byValue 8 rfl];exact wpAny_pure q
 |str i=>cases AJ.mp c;rintro⟨t,rfl⟩:r;exact λA E Q q=>by rw[eqIsQuiet_byValue 8 rfl];exact wpAny_pure q
 |tup ps=>
   rintro⟨xs,rfl⟩:Eg (show(ps.all λp=>p.tag == 3)=true from d);rintro⟨a,vs,rfl,h1,h2⟩:A9.mp c;cases r;rintro⟨its,e,pi⟩:BY Aj By h1;have hs:=D4 (GW xs) h2 e;intro A E Q q;rw[eqIsQuiet.eq_2];refine wB (wpAny_specialOf pi.typeIs PySem.F.slot_tuple_eq.lookup ?_)
   try dsimp only
   refine wB (wpAny_isInstance (T:="tuple") (b:=true) pi.typeIs (by rw[isSubtype_type];kernel_rfl) ?_);refine xN (by decide) ?_;rintro⟨o,e1,e2,g,f⟩:pi;refine wB (wpAny_seqItems e1 f ?_);refine wB ?_;show wpAny _ _ (forIn its.toArray _ _) _ _ s;rw[<-Array.forIn_toList];refine wpAny_forIn_list _ (λrest b s'=>(∀v∈rest,v∈its)/\b=(none,())/\s'=s) _ ?_ ?_ _ _ #[λv c=>c,rfl,rfl]
   .rintro x rest b s' ⟨hm,rfl,rfl⟩
    rintro⟨i,hi⟩:mem_iff_getElem?.mp (hm x mS);rintro⟨z,_,t,rfl⟩:Pd.Hg hs hi;refine wB ?_;rw[eqIsQuiet_byValue 7 rfl];exact wpAny_pure (xN (by decide) (wpAny_pure #[λv c=>hm v (mem_cons_of_mem _ c),rfl,rfl]))
   .rintro b s' ⟨_,rfl,rfl⟩
    exact wpAny_pure q
 |_=>cases d
theorem JN{kvs:List (P×P)}(g:(kvs.map (·.1)).Nodup){i j:Nat}{p q:P×P}(h1:kvs[i]? =some p)(h2:kvs[j]? =some q)(e:p.1=q.1):i=j:=by
 rintro⟨hi,f⟩:List.getElem?_eq_some_iff.mp h1;rintro⟨c,d⟩:List.getElem?_eq_some_iff.mp h2;have a:=List.pairwise_iff_getElem.mp g;rcases Nat.lt_trichotomy i j with hlt|heq|b
 .exact absurd (by rw[getElem_map,getElem_map,f,d,e]) (a i j (by simpa using hi) (by simpa using c) hlt)
 .exact heq
 .exact absurd (by rw[getElem_map,getElem_map,f,d,e]) (a j i (by simpa using c) (by simpa using hi) b)
theorem Mw{a:Addr}{kvs:List (P×P)}{es:List DictEntry}{o:Obj}{v:V}{k:P}{u:Value}{A:Around}{E:Va}{Q:Option Nat->Shared->Prop}(Aj:DD Pg W.w H s.heap)(By:W.K.In s.heap)(hu:A.units + 20 < cLine)(hd:s.heap.get? a=some o)(U:o.data= .dict es.toArray ep)(ok:DE W H a kvs es)(q:Bk kvs k=true)(h:A5 W H k v)(r:RelV v u)
 (S:(∀p∈kvs,p.1≠k)->Q none s)(R:∀(i:Nat) (p:P×P),kvs[i]? =some p->p.1=k->Q (some i) s):wpAny (model Pg W.w) A (dictFind a u (CQ W.w k)) Q E s:=by
 rintro⟨q,ht⟩:Dx q;have T:=ok.pr
 have ent:∀(i:Nat) (e:DictEntry),es.toArray[i]? =some e->∃p y,kvs[i]? =some p/\e.hash=CQ W.w p.1/\RelV y e.key/\A5 W H p.1 y/\p.1.tag=k.tag/\keyOk p.1=true:=by
  intro i e he;rw[List.getElem?_toArray]at he;rintro⟨p,h1,h2,⟨y,d,g⟩,_⟩:Pd.Hg T he;exact#[p,y,h1,h2,d,g,ht p (mem_of_getElem? h1),ok.ks p (mem_of_getElem? h1)]
 have B:∀p∈kvs,∃(i:Nat) (e:DictEntry),kvs[i]? =some p/\es.toArray[i]? =some e/\e.hash=CQ W.w p.1:=λp l=>by
  rintro⟨i,hi,e⟩:mem_iff_getElem.mp l;have h1:kvs[i]? =some p:=by rw[List.getElem?_eq_getElem hi,e]
  rintro⟨f,h2,d⟩:Pd.get T h1;exact#[i,f,h1,by rw[List.getElem?_toArray];exact h2,d.1]
 have gen:((∃n t,u= .int n t)\/∃a,u= .ref a)->wpAny (model Pg W.w) A (dictFind a u (CQ W.w k)) Q E s:=λF=>by
  refine Qd (b:=λi=>match kvs[i]? with|some p=>decide (p.1=k)|none=>false) hd U F ?_ ?_ ?_ ?_ ?_ ?_ ?_
  .rw [Array.any_eq_false];intro i hi J;rintro⟨p,y,h1,h2,d,g,x,G⟩:ent i es.toArray[i] (Array.getElem?_eq_getElem hi);rw[bA]at J;have O:es.toArray[i].key=u:=eq_of_beq J.1;rw[O]at d
   have D:p.1=k:=by
    rcases F with⟨n,t,rfl⟩|⟨b,rfl⟩
    .cases k with
     |int m=>
       rintro⟨Z,hm⟩:LZ x;rw[hm]at g ⊢;cases Aa.mp g;cases Aa.mp h;rintro⟨t1,e1⟩:r;rintro⟨t2,e2⟩:d;rw[e1]at e2;cases e2;rfl
     |str m=>cases AJ.mp h;rintro⟨t1,e1⟩:r;cases e1
     |tup m=>rintro⟨_,_,rfl,_⟩:A9.mp h;cases r
     |_=>cases q
    .cases k with
     |int m=>cases Aa.mp h;rintro⟨t1,e1⟩:r;cases e1
     |str m=>cases AJ.mp h;rintro⟨t1,e1⟩:r;cases e1
     |tup m=>
       rintro⟨Z,hm⟩:LY x;have c:=(Ke G q x).1;rw[hm]at g c ⊢;have N:=h;have M:=g;rintro⟨b1,_,rfl,_⟩:A9.mp h;rintro⟨b2,_,rfl,_⟩:A9.mp g;cases r;cases d;exact A5.det Aj By M N c
     |_=>cases q
   have:=J.2;rw[h2,D]at this;simp at this
  .intro i e he J;rintro⟨p,y,h1,h2,d,g,x,G⟩:ent i e he;show SeqAt.EqAt A s e.key u (match kvs[i]? with|some p=>decide (p.1=k)|none=>false);rw[h1];have c:=Ke G q x;exact(Ly p.1 g h d r Aj By c.1 (by have:=c.2;lia)).2.2
  .exact Hw q h r Aj By
  .intro i e he;rintro⟨p,y,h1,h2,d,g,x,G⟩:ent i e he;exact Hw G g d Aj By
  .intro i j e f he hf _ _ bi X;rintro⟨p,y,h1,_⟩:ent i e he;rintro⟨Y,y',I,_⟩:ent j f hf;simp only[h1,I]at bi X;exact JN ok.nd h1 I ((of_decide_eq_true bi).trans (of_decide_eq_true X).symm)
  .intro C;refine S λp l D=>?_
   rintro⟨i,f,h1,h2,d⟩:B p l;have:=C i f h2 (by rw[d,D]);simp[h1,D]at this
  .intro i e he _ L;rintro⟨p,y,h1,_⟩:ent i e he;simp only[h1]at L;exact R i p h1 (of_decide_eq_true L)
 cases k with
 |int n=>
   cases Aa.mp h;rintro⟨t,rfl⟩:r;exact gen (.inl #[_,_,rfl])
 |tup n=>
   rintro⟨b,_,rfl,_⟩:A9.mp h;cases r;exact gen (.inr #[_,rfl])
 |str n=>
   clear gen;cases AJ.mp h;rintro⟨t,rfl⟩:r
   have key:∀(i:Nat) (e:DictEntry),es.toArray[i]? =some e->∃p m t,kvs[i]? =some p/\p.1= .str m/\e.key= .str m t:=λi e he=>by
    rintro⟨p,y,h1,h2,d,g,x,_⟩:ent i e he;rintro⟨m,hm⟩:Ik x;rw[hm]at g;cases AJ.mp g;rintro⟨t',e1⟩:d;exact#[p,m,t',h1,hm,e1]
   refine Qb hd U (λi e he=>let⟨_,m,t,_,_,z⟩:=key i e he;#[m,t,z]) (λC=>S λp l D=>?_) λi e t he L=>?_
   .obtain⟨i,e,h1,h2,d⟩:=B p l;rintro⟨Y,m,t',g1,g2,g3⟩:key i e h2;rw[h1]at g1;cases g1;rw[D]at g2;cases g2;exact C i e h2 t' g3
   .obtain⟨p,m,t',g1,g2,g3⟩:=key i e he;rw[L]at g3;cases g3;exact R i p g1 g2
 |_=>cases q
theorem HI:∀{xs:List Str} {us:List Value} {acc:Array Int} {A:Around} {E:Va} {s:Shared} {Q:Array Int->Shared->Prop},Paired (λz u=>∃t,u=Value.str z t) xs us->
 (∀(tk:Nat) (a:Array Int),a.toList=acc.toList++xs.map (hashStr W.w)->Q a {s with toks:=tk})->
 wpAny (model Pg W.w) A (forIn us acc λx r=>do let h <-pyHash x;pure (ForInStep.yield (r.push h))) Q E s
 |_,_,acc,A,E,s,Q,.nil,q=>wpAny_pure (q s.toks acc (by simp))
 | _,_,acc,A,E,s,Q,.cons ⟨t,e⟩ h,q=>by
   subst e;rw[forIn_cons];refine wB (wB (wpAny_pyHash_str (wpAny_pure ?_)));refine HI h λtk a b=>q tk a ?_
   rw[b];simp
theorem K1{k:P}{v:V}{u:Value}{A:Around}{E:Va}{Q:Int->Shared->Prop}(Aj:DD Pg W.w H s.heap)(By:W.K.In s.heap)(l:A.units + 20 < cLine)(c:keyOk k=true)(b:A5 W H k v)(r:RelV v u)(q:∀tk:Nat,Q (CQ W.w k) {s with toks:=tk}):wpAny (model Pg W.w) A (pyHash u) Q E s:=by
 cases k with
 |int i=>cases Aa.mp b;rintro⟨t,rfl⟩:r;exact wpAny_pyHash_int (q _)
 |str i=>cases AJ.mp b;rintro⟨t,rfl⟩:r;exact wpAny_pyHash_str (q _)
 |tup ps=>
   rintro⟨xs,rfl⟩:Eg (show(ps.all λp=>p.tag == 3)=true from c);rintro⟨a,vs,rfl,h1,h2⟩:A9.mp b;cases r;rintro⟨its,d,pi⟩:BY Aj By h1;have hs:=D4 (GW xs) h2 d;show wpAny _ _ (pyHashByItsType (.ref a)) _ _ s;refine PySem.W.pyHash_slot (pi.typeIs) PySem.F.slot_tuple_hash PySem.F.entry_tuple_hash (PySem.F.args_tuple_hash_1 _) (by decide) (.inr (by lia)) ?_;show wpAny _ _ (Builtin.Tuple.tupleItemsOf (.ref a) >>= λxs=>forIn xs [].toArray (λx r=>do let h <-pyHash x;pure (ForInStep.yield (r.push h))) >>= λhs=>retInt (Builtin.Tuple.tupleHashOf hs.toList)) _ _ s;rintro⟨o,e1,e2,n,g⟩:pi;unfold Builtin.Tuple.tupleItemsOf;refine wB (wB (wpAny_seqItems e1 g (wpAny_pure ?_)));rw[<-Array.forIn_toList];show wpAny _ _ (forIn its [].toArray _ >>= _) _ _ s;refine wB (HI hs λtk j f=>?_);refine wB (wpAny_mkInt' (wpAny_pure #[_,_,rfl,?_]))
   have e:reduceHash (Builtin.Tuple.tupleHashOf j.toList)=CQ W.w (.tup (xs.map .str)):=by
    rw[f];unfold CQ;simp[P.BN,Function.comp_def]
   rw[e];exact q _
 |_=>cases c
theorem ND{kvs:List (P×P)}{k:P}(h:∀p∈kvs,p.1≠k):CT kvs k=none:=by
 unfold CT;rw[List.find?_eq_none.mpr (λp a=>by simp[h p a])];rfl
theorem Tf{kvs:List (P×P)}{k:P}{i:Nat}{p:P×P}(c:(kvs.map (·.1)).Nodup)(h:kvs[i]? =some p)(e:p.1=k):CT kvs k=some p.2:=by
 unfold CT;cases hf:kvs.find? λp=>decide (p.1=k)with
 |none=>
   have:=List.find?_eq_none.mp hf p (mem_of_getElem? h);simp[e]at this
 |some b=>
   have h1:=List.mem_of_find?_eq_some hf;have h2:b.1=k:=by simpa using List.find?_some hf
   rintro⟨j,d,f⟩:mem_iff_getElem.mp h1;have a:kvs[j]? =some b:=by rw[List.getElem?_eq_getElem d,f]
   have:=JN c h a (e.trans h2.symm);subst this;rw[h]at a;cases a;rfl
theorem GS{a:Addr}{kvs:List (P×P)}{es:List DictEntry}{v:V}{k:P}{u:Value}{A:Around}{E:Va}{Q:Option Value->Shared->Prop}(Aj:DD Pg W.w H s.heap)(By:W.K.In s.heap)(c:A.units + 20 < cLine)(hd:Ci s.heap a es ep)(ok:DE W H a kvs es)(d:Bk kvs k=true)(b:A5 W H k v)(r:RelV v u)
 (m:CT kvs k=none->∀tk,Q none {s with toks:=tk})(l:∀p y z,CT kvs k=some p->A5 W H p y->RelV y z->∀tk,Q (some z) {s with toks:=tk}):wpAny (model Pg W.w) A (dictGet a u) Q E s:=by
 rintro⟨o,h1,h2,g⟩:hd;unfold dictGet;refine wpAny_holding (wB (K1 Aj By c (Dx d).1 b r λtk=>?_));refine wB (Mw (s:={s with toks:=tk}) Aj By c h1 g ok d b r (λh=>?_) λi p hi e=>?_)
 .exact wpAny_pure (m (ND h) tk)
 .refine wB (wpAny_dictEntries (s:={s with toks:=tk}) h1 g (wpAny_pure ?_));rintro⟨f,g1,g2⟩:Pd.get ok.pr hi;rw[List.getElem?_toArray,g1];rintro⟨y,j,n⟩:g2.2.2;exact l _ y _ (Tf ok.nd hi e) n j tk
theorem HM(kvs:List (P×P))(k v:P)(h:(kvs.any λq=>decide (q.1=k))=true):(dput kvs k v).map (·.1)=kvs.map (·.1):=by
 unfold dput;rw[iP h,map_map];apply map_congr_left;intro p _;show(if p.1=k then(p.1,v)else p).1=p.1;split<;>rfl
theorem GN{kvs:List (P×P)}{k v:P}(a:(kvs.map (·.1)).Nodup):((dput kvs k v).map (·.1)).Nodup:=by
 by_cases h:(kvs.any λq=>decide (q.1=k))=true
 .rw[HM _ _ _ h];exact a
 .unfold dput;rw[iN h,map_append,nodup_append];refine#[a,by simp,?_];intro x b z hz e;simp at hz;subst hz;rintro⟨p,c,e2⟩:mem_map.mp b;exact h (any_eq_true.mpr #[p,c,dZ (e2.trans e)])
theorem GO(kvs:List (P×P))(k v:P):(dput kvs k v).length<=kvs.length + 1:=by
 unfold dput;split
 .rw[lM];lia
 .rw[lA];exact Nat.le_refl _
theorem K7{kvs:List (P×P)}{k v:P}{p:P×P}(h:p∈dput kvs k v):(∃q∈kvs,p.1=q.1)\/p=(k,v):=by
 unfold dput at h;split at h
 .obtain⟨q,hq,e⟩:=mem_map.mp h;refine .inl #[q,hq,?_];rw[<-e];split<;>rfl
 .rcases mZ h with z|z
  .exact .inl #[p,z,rfl]
  .exact .inr (mE z)
theorem Hc{kvs:List (P×P)}{es:List DictEntry}{k:P}(f:RelV y r)(d:A5 W H v y)(a:(kvs.map (·.1)).Nodup):∀{i:Nat} {p:P×P},Paired (FG W H) kvs es->kvs[i]? =some p->p.1=k->
 Paired (FG W H) (kvs.map λp=>if p.1=k then(p.1,v)else p) (es.modify i λe=>{hash:=e.hash,key:=e.key,val:=r}):=by
 induction kvs generalizing es with
 |nil=>intro i p _ e;simp at e
 |cons q kvs c=>
   intro i p g hi he;rw[map_cons,nodup_cons]at a;cases g with
   |@cons _ e0 _ h h0 b=>
     cases i with
     |zero=>
       simp at hi;subst hi;rw[map_cons,iP he]
       have rest:(kvs.map λp=>if p.1=k then(p.1,v)else p)=kvs:=by
        have:∀q∈kvs,(if q.1=k then(q.1,v)else q)=q:=by
         intro q hq;rw[iN];intro z;exact a.1 (mem_map.mpr #[q,hq,z.trans he.symm])
        conv=>rhs;rw[<-List.map_id kvs]
        exact map_congr_left this
       rw[rest];exact .cons #[h0.1,h0.2.1,y,f,d] b
     |succ i=>
       have hi:kvs[i]? =some p:=by simpa using hi
       rw[map_cons,iN]
       .exact .cons h0 (c a.2 b hi he)
       .intro z;exact a.1 (mem_map.mpr #[p,mem_of_getElem? hi,he.trans z.symm])
theorem FG.mono{H':Hp}{q:P×P}{e:DictEntry}(z:FG W H q e)(k:AH H H'):FG W H' q e:=#[z.1,let⟨v,a,b⟩:=z.2.1;#[v,a,b.mono k],let⟨v,a,b⟩:=z.2.2;#[v,a,b.mono k]]
section
variable{X:Cx}{p0:Oa}{Y:L2.St}{s:Shared}{a:Addr}{kvs:List (P×P)}{k v:P}{x y:V}{u r:Value}{A:Around}{E:Va}
theorem Qn(I:∅){es:List DictEntry}(b:H a=some (DX a es)):Ci s.heap a es es.length:=(show Br X.prog X.w H s.heap a (DX a es)from I.Aj a _ b).1
theorem K9{h':Heap}{t':Nat}{es b:List DictEntry}{oc:Value}{d:Option Addr}{os:Array (Option Value)}{j:Data}(I:∅)(i:H a=some (DX a es))(hs:Heap.SameBut a s.heap h')
 (c:h'.get? a=some #[oc,d,.dict b.toArray b.length,os])(h:(Obj.mk oc d j os).ExactDict):Inv X p0 Y (upd H a (DX a b)) {s with heap:=h',toks:=t'}:=by
 refine Tn I (by rw[i];exact True.intro) hs #[_,c] #[#[_,c,h,rfl],#[_,c],?_]
 rintro h1 h2 ⟨o,g,f,e⟩ k
 exact#[o,k o g,f,e]
theorem GR{Q:Unit->Shared->Prop}{es:List DictEntry}(hK:W.K=X.K)(O:A.units + 150 < cLine)(hw:W.w=X.w)(I:∅)(B:H a=some (DX a es))(ok:DE W H a kvs es)(N:Bk kvs k=true)(D:A5 W H k x)(M:A5 W H v y)(hl:kvs.length < big)(C:RelV x u)(J:RelV y r)
 (h:∀b s',DE W (upd H a (DX a b)) a (dput kvs k v) b->Inv X p0 Y (upd H a (DX a b)) s'->Q () s'):
 wpAny (model X.prog X.w) A (setItem (.ref a) u r) Q E s:=by
 have hd:=Qn I B;have ty:=hd.typ;rintro⟨o,h1,h2,f⟩:hd;have hlen:=Paired.length ok.pr;have T:∀b,AH H (upd H a (DX a b)):=λb=>BR B HB.1 HB.2.1
 have L:=(Dx N).1;unfold setItem;refine wpAny_holding (wB (wpAny_sequenceKey ty (by decide) ?_));refine wB (wpAny_callSpecial?_slot ty slot_dict_setitem (wpAny_call_entry slot_dict_setitem ty entry_dict_setitem ?_ (args_dict_setitem _ _ _)));show wpAny _ _ (Builtin.Dict.notOrdered "__setitem__" #[[.ref a,u,r],[]] >>= λ_=>dictSet a u r >>= λ_=>ret Value.none) _ _ s;unfold Builtin.Dict.notOrdered;refine wB ?_;refine wpAny_ite_split (λ_=>?_) (λG=>absurd (by decide) G);refine wB (wpAny_typeOf ty ?_);refine xN (by decide) (wpAny_pure ?_);refine wB ?_;unfold dictSet;rw[<-hw]
 have g:∀p∈dput kvs k v,keyOk p.1=true:=λp m=>by
  rcases K7 m with⟨q,hq,e1⟩|e
  .rw[e1];exact ok.ks q hq
  .rw[e];exact L
 have Aj:DD X.prog W.w H s.heap:=by rw[hw];exact I.Aj
 have By:W.K.In s.heap:=by rw[hK];exact I.GC
 refine wpAny_holding (wB (K1 Aj By (by first|lia|(rw[in1_units];lia)) L D C λtk=>?_));unfold dictSetHashed;refine wpAny_holding (wB (Mw (s:={s with toks:=tk}) Aj By (by first|lia|(rw[in1_units];lia)) h1 f ok N D C (λF=>?_) λi p hi e=>?_))
 .refine wB (wpAny_rule ?_);refine wpAny_updateDictKeys (s:={s with toks:=tk}) h1 f ?_ (by rw[size_toArray];have:=Bw;lia) (by simp);refine wpAny_pure #[_,rfl,wpAny_pure ?_]
  have n:¬(kvs.any λq=>decide (q.1=k))=true:=λz=>by
   rintro⟨p,m,e⟩:any_eq_true.mp z;exact F p m (of_decide_eq_true e)
  have d:dput kvs k v=kvs++[(k,v)]:=by unfold dput;rw[iN n]
  rintro⟨oc,t,j,os⟩:o;have f:j= .dict es.toArray es.length:=f;subst f
  have c:(s.heap.update a (Obj.mapDictKeys λx=>x.push (#[CQ W.w k,u,r]:DictEntry))).get? a=some #[oc,t,.dict (es++[(#[CQ W.w k,u,r]:DictEntry)]).toArray (es++[(#[CQ W.w k,u,r]:DictEntry)]).length,os]:=by
   rw[Heap.get?_update_self _ h1 rfl];show some (Obj.mk oc t (.dict (es.toArray.push (#[CQ W.w k,u,r]:DictEntry)) (es.length+1)) os)=_;rw[List.push_toArray,lA];rfl
  refine h (es++[(#[CQ W.w k,u,r]:DictEntry)]) _ #[?_,GN ok.nd,g,by have:=GO kvs k v;lia,ok.sm] (K9 (s:=s) (t':=tk) I B (Heap.SameBut.update ..) c h2);rw[d];exact Pd.append (Paired.EY ok.pr λ_ _ z=>z.mono (T _)) (.cons #[rfl,#[x,C,D.mono (T _)],y,J,M.mono (T _)] .nil)
 .refine wB (wpAny_rule ?_);refine wB (wpAny_updateDict (s:={s with toks:=tk}) h1 f ?_ (by simp));have l:(kvs.any λq=>decide (q.1=k))=true:=any_eq_true.mpr #[p,mem_of_getElem? hi,dZ e];have d:dput kvs k v=kvs.map λp=>if p.1=k then(p.1,v)else p:=by unfold dput;rw[iP l]
  rintro⟨oc,t,j,os⟩:o;have f:j= .dict es.toArray es.length:=f;subst f
  have c:(s.heap.update a (Obj.mapDict λx=>x.modify i λe=>{hash:=e.hash,key:=e.key,val:=r})).get? a=some #[oc,t,.dict (es.modify i λe=>{hash:=e.hash,key:=e.key,val:=r}).toArray (es.modify i λe=>{hash:=e.hash,key:=e.key,val:=r}).length,os]:=by
   rw[Heap.get?_update_self _ h1 rfl];show some (Obj.mk oc t (.dict (es.toArray.modify i _) es.length) os)=_;rw[List.modify_toArray,List.length_modify]
  refine wpAny_point ?_;refine wpAny_pure #[_,rfl,wpAny_pure ?_];refine h (es.modify i λe=>{hash:=e.hash,key:=e.key,val:=r}) _ #[?_,GN ok.nd,g,by have:=GO kvs k v;lia,ok.sm] (K9 (s:=s) (t':=tk) I B (Heap.SameBut.update ..) c h2);rw[d];exact Hc J (M.mono (T _)) ok.nd (Paired.EY ok.pr λ_ _ z=>z.mono (T _)) hi e
def aZ(W:Wd):QN:=λo i v H Q=>Gq W (Dt λc x k=>Dq c k x) o [v,i] H λ_ H'=>Q H'
theorem Vx(hK:W.K=X.K)(N:X.A.units + 150 < cLine)(hw:W.w=X.w):TV X (aZ W):=by
 intro p0 s Y H o i v L M u Q I t z m h;rintro⟨own,bor,c,cs,c',h1,h2,e,q⟩:h;rintro⟨G,J,rfl,e⟩:IC e;rintro⟨Z,V,O,D,B⟩:OC h2;cases O;rcases or_some e with e|e
 .obtain⟨ps,ep,e⟩:=Ab e;rintro⟨j,T,e⟩:Ab e;rintro⟨p,g,e⟩:Ab e;rintro⟨n,S,rfl⟩:AU e;cases G1 ep;cases C.AW T;cases C.BO g;cases AZ B;rintro⟨l,vs,rfl,k1,k2,f⟩:EF h1 q;exact set_list p0 s Y H _ _ v L M u Q I t z m #[l,vs,j,n,rfl,rfl,k1,by rw[<-Paired.length k2];exact S,f _ .AG (Pd.set (GY D) n k2)]
 .cases c with
  |Bl b kvs=>
    cases b with
    |false=>cases e
    |true=>
      rintro⟨p,ep,e⟩:Ab (show(J.Hb.bind λk=>G.Hb.bind λv=>if Bk kvs k=true/\kvs.length < big then some (C.Bl true (dput kvs k v))else none)=some c' from e);rintro⟨w,R,e⟩:Ab e;rintro⟨F,rfl⟩:A3 e;cases C.BO ep;cases C.BO R;rintro⟨a,es,rfl,⟨k1,k2⟩,f⟩:h1;cases t;refine GR hK N hw I k1 f F.1 (GY B) (GY D) F.2 z m λd s' ok U=>#[_,U,q a _ (DX a d) .AG k2 k1 HB #[a,d,rfl,#[A6,k2],ok]]
  |_=>cases e
end
section
variable{cf:CF}{k:Nat}{ct:Ct}{X:Cx}
theorem Oc{α β:Type}{rep:Rp α β}{F:Env->Res α}{Y:L2.St}{H:Hp}{Q Q':β->Hp->Prop}(h:tG W rep F Y H Q)(k:∀b H',Q b H'->Q' b H'):tG W rep F Y H Q':=let⟨U,B,R,z⟩:=h;#[U,B,R,z.imp k]
theorem Ro(L:Bb ct X W cf k){i j:Nat}{a:Expr}{pos:Pos}(hs:ct.slot y=some j)(hi:IL a=false)(he:AR X W cf e t)(h:AR X W cf a u):
 PS X (.Assign [.Subscript (.Name y p) a q] e pos) (rS W cf (.Ce j false (Dt λc x k=>Dq c k x) [t,u])):=by
 have g:swapsWithSole [.Subscript (.Name y p) a q] e pos.line X.env=pure false:=by
  show swapsWith e (some (.Subscript (.Name y p) a q)) pos.line X.env=pure false;cases e<;>rfl
 have f:swappedStores [.Subscript (.Name y p) a q] e X.env=pure none:=by cases e<;>rfl
 refine C0 (KO he.v (OQ (L.pv hs) h.v (Vx L.K (by have:=L.un;lia) L.w) ?_) g f rfl) λD Y H z=>?_
 .intro v;cases a<;>first|rfl|cases hi
 .obtain⟨Hin,A0,Bo,U,S,b⟩:=z;replace b:Bh W Hin A0 Bo [] D Y (if(!(A8 U j).any λ_=>true)=true then .stuck else(BK cf [t,u] U).fl λcs=>match(A8 U j).bind λc=>(Dt λc x k=>Dq c k x) c cs with|some c'=>.nx (U.set j (some c'))|none=>.stuck):=b;cases d:A8 U j with
  |none=>rw[d]at b;exact b.elim
  |some c=>
    rw[iN (by rw[d];simp)]at b;rintro⟨O,m⟩:S.env;rintro⟨x,l,n⟩:m j c d;have z:=Gg (O6 S b d l);refine Oc z λv H1 z=>#[x,l,?_]
    have z:=Gg z;refine Oc z λw H2 z=>?_
    exact M0 z
end
theorem Fn(x:Str):∀l:List Str,AN (l++[x])=if l.contains x then AN l else AN l + 1
 |[]=>rfl
 | a ::l=>by
   have d:=Fn x l;rw[List.cons_append];have e1:AN (a::(l++[x]))=if(l++[x]).contains a then AN (l++[x])else AN (l++[x])+1:=rfl
   have e2:AN (a::l)=if l.contains a then AN l else AN l+1:=rfl
   rw[e1,e2,d]
   by_cases b:x=a
   .subst b;simp
   .have c:¬a=x:=λz=>b z.symm
    by_cases h1:a∈l<;>by_cases h2:x∈l<;>simp[h1,h2,b,c]
section
variable{prog:Program}{w:World}{A:Around}{R:Result->Shared->Prop}{E:Va}{s:Shared}
abbrev DZ(prog:Program)(w:World)(h:Heap)(S:Addr)(l:List Str):Prop:=h.SetOf (PySem.strKind prog w) S (λk=>l.contains k) (AN l)
theorem Hz:∀l:List Str,AN l<=l.length
 |[]=>Nat.le_refl _
 | a::l=>by
   have:=Hz l;show(if l.contains a then AN l else AN l+1)<=l.length+1;split<;>lia
theorem take_snoc{l:List Str}{i:Nat}{x:Str}(h:l[i]? =some x):l.take (i + 1)=l.take i++[x]:=by
 rw[take_add_one,h];rfl
theorem Rg{I S ax:Addr}{items:Array Value}{ks:List Str}(f:S≠I)(y:S≠ax)(u:ax≠I)(Q:A.in1.handled=none)(P:∀(i:Nat) (v:Value),items[i]? =some v->∃x t,ks[i]? =some x/\v= .str x t)(hl:ks.length=items.size)(T:items.size + 1 < scanBound):
 ∀ (m i:Nat) (s:Shared),items.size - i=m->i<=items.size->s.heap.IsTupleIter I ax i->s.heap.IsTuple ax items->DZ prog w s.heap S (ks.take i)->
   (∀h' tk,(∀b o,b≠S->b≠I->s.heap.get? b=some o->h'.get? b=some o)->DZ prog w h' S ks->R (.ok (.ret .none)) {s with heap:=h',toks:=tk})->
   codeAny (model prog w) A (.builtin "set.update.loop" #[[.ref S,.ref I],[]]) R s:=by
 have W:=Walks.tuple (prog:=prog) (w:=w) Q I ax u items;have J:∀{h h':Heap} {l:List Str},(∀o,h.get? S=some o->h'.get? S=some o)->DZ prog w h S l->DZ prog w h' S l:=λ{h h' l} k ⟨o,es,ep,t,O,r⟩=>#[o,es,ep,t,k o O,r]
 intro m
 induction m with
 |zero=>
   intro i s hm hi hit a n G;have q:i=items.size:=by lia
   subst q;refine codeAny_builtin F.entry_set_update_loop ?_;rw[Around.under_plainId F.plain_set_update_loop _];show wpAny _ A.in1 (pyNext (.ref I) >>= _) _ _ s;refine wB (W.done s _ _ #[hit,a] λh' tk k=>?_);show wpAny _ A.in1 (ret Value.none) _ _ _;refine wpAny_pure (G h' tk (λb o h1 h2 e=>k b o (by simpa using h2) e) ?_);rw[<-hl,take_length]at n;exact J (λo e=>k S o (by simpa using f) e) n
 |succ m L=>
   intro i s hm hi hit a n G;have hlt:i < items.size:=by lia
   refine codeAny_builtin F.entry_set_update_loop ?_;rw[Around.under_plainId F.plain_set_update_loop _];show wpAny _ A.in1 (pyNext (.ref I) >>= _) _ _ s;refine wB (W.item i s _ _ hlt #[hit,a] λv h1 tk N st k=>?_);rintro⟨x,t,M,rfl⟩:P i v N;have D:=J (λo e=>k S o (by simpa using f) e) n;show wpAny _ A.in1 (holding [Value.str x t] (setAdd S (.str x t)) >>= _) _ _ _;refine wB (wpAny_holding ?_);unfold setAdd;refine wpAny_holding ?_
   have GH:(PySem.strKind prog w).is x (.str x t)=true:=by
    show Value.isStrOf x (.str x t)=true;simp[Value.isStrOf]
   refine wB ((PySem.strKind prog w).pyHash (k:=x) GH ?_)
   have d:AN (ks.take i) + 1 < scanBound:=by
    have:=Hz (ks.take i);rw[length_take]at this
    lia
   refine wpAny_setAddHashed_of (knd:=PySem.strKind prog w) (s:={s with heap:=h1,toks:=tk+1}) GH rfl D d λh2 c C=>?_
   have B:DZ prog w h2 S (ks.take (i + 1)):=by
    rw[take_snoc M];refine SetOf_congr C (λK=>?_) ?_
    .simp[List.contains_eq_mem,Bool.or_comm,eq_comm]
    .rw[Fn]
   have kp:∀b o,b≠S->b≠I->s.heap.get? b=some o->h2.get? b=some o:=λb o j g e=>by rw[c.2 b j];exact k b o (by simpa using g) e
   refine wpAny_pure #[plainId_quiet F.plain_set_update_loop _,L (i+1) _ (by lia) hlt (st.1.at λo e=>by rw[c.2 I f.symm];exact e) (st.2.at λo e=>by rw[c.2 ax y.symm];exact e) B λh' p K z=>?_];exact G h' p (λb o j g e=>K b o j g (kp b o j g e)) z
end
end Nv
namespace PySem.F
theorem Jw:isSubtype (.type "tuple") (.type "set")=pure false:=by rw[isSubtype_type];kernel_rfl
theorem Io:isSubtype (.type "tuple") (.type "frozenset")=pure false:=by rw[isSubtype_type];kernel_rfl
end PySem.F
namespace Nv
open PySem L2 PyProof.Rows
abbrev Ox(led:Bool):Obj:={cls:=.type "set",dict:=none,data:=.set [].toArray 0 (.fresh 0 0 led)}
section
variable{prog:Program}{w:World}{A:Around}{E:Va}{s:Shared}
variable{ax:Addr}
theorem Rh{S:Addr}{led:Bool}{items:Array Value}{ks:List Str}{Q:Va}(z:A.handled=none)(j:s.heap.get? S=some (Ox led))(f:S≠ax)(c:s.heap.IsTuple ax items)
 (y:∀(i:Nat) (v:Value),items[i]? =some v->∃x t,ks[i]? =some x/\v= .str x t)(hl:ks.length=items.size)(B:items.size+1 < scanBound)
 (h:∀h' tk,(∀b o,b≠S->b < s.heap.objs.size->s.heap.get? b=some o->h'.get? b=some o)->DZ prog w h' S ks->Q .none {s with heap:=h',toks:=tk}):
 wpAny (model prog w) A (Builtin.«set.__init__» #[[.ref S,.ref ax],[]]) (λfin s'=>∃r,fin= .done (.ret r)/\Q r s') E s:=by
 have D:s.TypeIs (.ref S) "set":=#[_,j,rfl];have C:s.TypeIs (.ref ax) "tuple":=c.typeIs;have q:=F.Jw;have u:=F.Io;unfold Builtin.«set.__init__» noKeywords Builtin.Frozenset.updateFrom;generalize l:pyIter=PI
 wp_walk
 subst l;refine wpAny_pyIter_tuple c ?_;refine wB (wpAny_runValue ?_);have hlt:S < s.heap.objs.size:=hZ j;rintro⟨m,a,r⟩:c;have d:ax < s.heap.objs.size:=hZ a;refine Rg (A:=A) (ks:=ks) (items:=items) (ax:=ax) (Nat.ne_of_lt hlt) f (Nat.ne_of_lt d) (by simp[z]) y hl B items.size 0 _ (by lia) (Nat.zero_le _) ?_ ?_ ?_ λh' tk k g=>?_
 .exact#[_,Heap.get?_push_size _ rfl,rfl,rfl]
 .exact#[m,gP a,r]
 .exact SetOf_congr ((setObjOf_fresh (knd:=PySem.strKind prog w) led).setOf (gP j) (by unfold scanBound;lia)) (λ_=>rfl) rfl
 .show wpAny _ _ _ _ _ _;refine wpAny_pure ?_;show wpAny _ _ (ret Value.none) _ _ _;exact wpAny_pure #[_,rfl,h h' tk (λb o p n e=>k b o p (Nat.ne_of_lt n) (gP e)) g]
theorem Ri{items:Array Value}{ks:List Str}{Q:Va}(L:A.handled=none)(I:s.heap.IsTuple ax items)
 (K:∀(i:Nat) (v:Value),items[i]? =some v->∃x t,ks[i]? =some x/\v= .str x t)(hl:ks.length=items.size)(O:items.size+1 < scanBound)
 (h:∀h' tk,(∀b o,s.heap.get? b=some o->h'.get? b=some o)->DZ prog w h' s.heap.objs.size ks->Q (.ref s.heap.objs.size) {s with heap:=h',toks:=tk}):
 wpAny (model prog w) A (call (.type "set") [.ref ax]) Q E s:=by
 rintro⟨c,tl,D⟩:F.called_set.mro;have u:=F.called_set.made;have C:=F.called_set.sub;have h1:=F.called_set.notType;have h2:=F.called_set.canCreate;have M:=F.typeCall_set_1 (.ref ax);refine wpAny_call (codeAny_of_tree ?_);show wpAny _ _ (callAny (.type "set") _) _ _ _;refine wpAny_pure #[Code.quiet_builtin _ #[],codeAny_builtin F.entry_type_call ?_];rw[Around.under_plain (weight_type_call_type "set" [.ref ax] []) rfl]
 repeat (any_goals (first|assumption|wp_step))
 refine codeAny_mono (code_set_new_1 (.ref ax) (E:=E) (Q₁:=λobj f=>∃led:Bool,obj= .ref s.heap.objs.size/\f={s with heap:=s.heap.push (Ox led)}) λled=>#[led,rfl,rfl]) λr f m=>?_
 cases r with
 |error e=>exact m
 |ok fl =>
   cases fl with
   |next=>exact m.elim
   |brk=>exact m.elim
   |cont=>exact m.elim
   |ret obj=>
     rintro⟨led,rfl,rfl⟩:m;have G:(s.heap.push (Ox led)).get? s.heap.objs.size=some (Ox led):=Heap.get?_push_size _ rfl;have P:Shared.TypeIs {s with heap:=s.heap.push (Ox led)} (.ref s.heap.objs.size) "set":=#[_,G,rfl];have J:=F.called_set.init.lookup;have N:=F.called_set.init.bind (.ref s.heap.objs.size);rintro⟨H,n,rt⟩:I;have B:ax < s.heap.objs.size:=hZ n
     repeat (any_goals (first|assumption|wp_step))
     refine codeAny_mono (codeAny_call_builtin (R:=wants (λr d=>r= .none/\∃h' tk,d={s with heap:=h',toks:=tk}/\DZ prog w h' s.heap.objs.size ks/\∀b o,s.heap.get? b=some o->h'.get? b=some o) E) F.called_set.init.plain F.entry_set_init (check_set_init_1 P ?_)) λl d a=>?_
     .refine wpAny_mono (Rh (E:=E) (A:=A.in1.in1) (led:=led) (Q:=λr d=>r= .none/\∃h' tk,d={s with heap:=h',toks:=tk}/\DZ prog w h' s.heap.objs.size ks/\∀b o,s.heap.get? b=some o->h'.get? b=some o) (by simp[L]) G (Nat.ne_of_gt B) #[H,gP n,rt] K hl O λh' tk k g=>?_) (λfin s' ⟨r,e,q⟩=>?_) λe s' z=>z
      .refine#[rfl,h',tk,rfl,g,λb o e=>?_];have p:=hZ e;exact k b o (Nat.ne_of_lt p) (by rw[Heap.size_push];exact Nat.lt_succ_of_lt p) (gP e)
      .subst e;exact q
     .cases l with
      |error e=>exact a
      |ok j=>
        cases j with
        |ret r=>
          rintro⟨rfl,h',tk,rfl,g,y⟩:a
          repeat (any_goals (first|assumption|wp_step))
          exact h _ _ y g
        |_=>exact a.elim
end
def SX(P:Program)(w:World)(a:Addr)(l:List Str):HO:=.ext λh=>DZ P w h a l
section
variable{X:Cx}{W:Wd}{ct:Ct}{cf:CF}{k:Nat}
variable{H:Hp}
theorem Cc.bR{H':Hp}{Q:VK}(q:Cc W H (.p (.int b)) Q)(s:Dd H H'):Q (.int b) H':=q _ _ s (show A5 W H' (.int b) _ from Aa.mpr rfl)
def YD(te:TE):TE:=λY H Q'=>∃Q,te Y H Q/\∀x H1,Q x H1->Q' x H1
variable{te:TE}
theorem Cj(h:PE X e te):PE X e (YD te):=λp0 s Y H Q' I ⟨Q,z,k⟩=>AS (h p0 s Y H Q I z) λv s1 ⟨x,H1,c,a,b⟩=>#[x,H1,c,a,k x H1 b]
theorem Rr{xs:List Str}{us:List Value}(h:Paired (λz u=>∃t,u=Value.str z t) xs us)(i:Nat)(u:Value)(e:us[i]? =some u):∃x t,xs[i]? =some x/\u= .str x t:=by
 rintro⟨x,h1,t,h2⟩:Pd.Hg h e;exact#[x,t,h1,h2]
def aX(W:Wd)(X:Cx):V->Hp->VK->Prop:=λx H Q=>∃ps l,A5 W H (.tup ps) x/\Cv P.BN ps=some l/\l.length < 4000/\∀p,H p=none->Q (.ref p) (upd H p (SX X.prog X.w p l))
theorem Yg(hK:W.K=X.K)(m:X.calm=true):Hl X (λv=>call (.type "set") [v]) (aX W X):=by
 intro p0 s Y H x u Q I f h;rintro⟨ps,l,h1,h2,y,q⟩:h;rintro⟨a,vs,rfl,p,n⟩:A9.mp h1;cases f;rintro⟨its,g,j,_⟩:I.tuple (hK▸p);have c:=D4 h2 n g;have hl:=Paired.length c;refine Ri (ks:=l) (items:=its.toArray) (I.ok.hd m) j (λi v e=>Rr c i v (by simpa using e)) (by simpa using hl) (by unfold scanBound;simp only[size_toArray];lia) λh' tk k d=>?_
 refine#[.ref s.heap.objs.size,upd H s.heap.objs.size (SX X.prog X.w s.heap.objs.size l),I.laid k (Nat.le_refl _) #[d,?_,λh1 h2 ⟨o,es,ep,t,b,r⟩ k=>#[o,es,ep,t,k o b,r]],rfl,q _ (I.Aj.fresh (Nat.le_refl _))];rintro⟨o,es,ep,t,b,_⟩:d;exact#[o,b]
def YQ(X:Cx):V->Hp->VK->Prop:=λx H Q=>∃p l,x= .ref p/\H p=some (SX X.prog X.w p l)/\Q (.int (AN l)) H
theorem V6:Hl X (λv=>call (.builtin "len") [v]) (YQ X):=by
 intro p0 s Y H x u Q I a h;rintro⟨p,l,rfl,h1,q⟩:h;cases a;rintro⟨⟨o,es,ep,t,b,hex,hd,_,_,d,hf,c⟩,_⟩:(show Br X.prog X.w H s.heap p (SX X.prog X.w p l)from I.Aj p _ h1);refine call_len_set b hex hd hf (by unfold scanBound at d;lia) #[.int (AN l),H,I.tok _,#[s.toks+1,by rw[c]],q]
theorem Xl:bootBuiltins "set"=some (.type "set"):=rfl
theorem Qx:bootBuiltins "range"=some (.type "range"):=rfl
variable{pos:Pos}
theorem cj{r:V->Hp->VK->Prop}(d:Hl X (λv=>call (.builtin f) [v]) r)(L:Bb ct X W cf k)(c:ct.own x=true)(b:bootBuiltins x=some (.builtin f))(a:A7 e=true)(he:PE X e te):PE X (.Call (.Name x p) [e] [] pos) (λY H Q=>te Y H λv H1=>r v H1 Q):=by
 rintro⟨g1,g2,g3,g⟩:L.EV c;exact Ai (Dr (G7 d) g1 g2 b (AB he Bv (A2 a [] _)) g g3 (A2 a [] _) rfl) λY H Q z=>z
theorem Xi{r:V->Hp->VK->Prop}(d:Hl X (λv=>call (.type f) [v]) r)(L:Bb ct X W cf k)(c:ct.own x=true)(b:bootBuiltins x=some (.type f))(a:A7 e=true)(he:PE X e te):PE X (.Call (.Name x p) [e] [] pos) (λY H Q=>te Y H λv H1=>r v H1 Q):=by
 rintro⟨g1,g2,g3,g⟩:L.EV c;exact Ai (Hx (G7 d) g1 g2 b (AB he Bv (A2 a [] _)) g g3 (A2 a [] _) rfl) λY H Q z=>z
variable{pos':Pos}
theorem Rt(L:Bb ct X W cf k)(g:ct.own x=true)(f:x="len")(b:ct.own y=true)(d:y="set")(a:A7 e=true)(he:PE X e te):PE X (.Call (.Name x p) [.Call (.Name y q) [e] [] pos'] [] pos) (λY H Q=>te Y H λv H1=>BZ W L9 v H1 Q):=by
 subst f d;refine Ai (cj V6 L g Qy rfl (Xi (Yg L.K L.calm) L b Xl a (Cj he))) λY H Q z=>#[_,z,λv H1 ⟨h,c,h1,e,q⟩=>?_]
 rintro⟨ps,e1,e⟩:Ab e;rintro⟨xs,e2,e⟩:Ab e;rintro⟨hl,rfl⟩:A3 e;cases C.Bs e1;exact#[ps,xs,GY h1,e2,hl,λp a=>#[p,xs,rfl,A6,q.bR (Ar a)]]
def ZV(a:Addr)(n:Int):HO:=.ext λh=>∃t u v,IsRange h a 0 n 1 t u v
def aY(W:Wd):V->Hp->VK->Prop:=λx H Q=>∃n,x= .int n/\∀p,H p=none->Q (.ref p) (upd H p (ZV p n))
theorem Rb:Hl X (λv=>call (.type "range") [v]) (aY W):=by
 intro p0 s Y H x u Q I a h;rintro⟨n,rfl,q⟩:h;rintro⟨t,rfl⟩:a;refine call_range_1 #[.ref s.heap.objs.size,upd H s.heap.objs.size (ZV s.heap.objs.size n),I.laid (λ_ _ z=>gP z) (Nat.le_refl _) #[#[_,_,_,IsRange.new ..],#[_,Heap.get?_push_size _ rfl],?_],rfl,q _ (I.Aj.fresh (Nat.le_refl _))]
 rintro h1 h2 ⟨t,u,v,b⟩ k
 exact#[t,u,v,k _ b]
theorem Nt{n:Nat}{acc:Array Value}(h:ItemsOf (λi v=>∃t,v= .int (0 + (i:Nat) * 1) t) acc n):Vals ((List.range n).map λ(i:Nat)=>V.int i) acc.toList:=by
 have gen:∀(m:Nat) (us:List Value),us.length=m->(∀(j:Nat) (u:Value),us[j]? =some u->∃t,u= .int j t)->Vals ((List.range m).map λ(i:Nat)=>V.int i) us:=by
  intro m
  induction m with
  |zero=>intro us hl _;cases List.eq_nil_of_length_eq_zero hl;exact .nil
  |succ m c=>
    intro us hl b;rcases List.eq_nil_or_concat us with rfl|⟨ws,w,rfl⟩
    .cases hl
    rw[List.concat_eq_append]at hl b ⊢;have hl:ws.length=m:=by simpa using hl
    rw[range_succ,map_append];refine Vals.append (c ws hl λj u a=>b j u ?_) (.cons ?_ .nil)
    .rw[List.getElem?_append_left (List.getElem?_eq_some_iff.mp a).1];exact a
    .obtain⟨t,e⟩:=b m w (by rw[List.getElem?_append_right (by lia)];simp[hl]);exact#[t,e]
 refine gen n acc.toList (by simp[h.1]) λj u a=>?_
 rintro⟨t,e⟩:h.2 j u (by simpa using a);exact#[t,by rw[e];congr 1;lia]
theorem N5(n:Int):Cw W H (Az 0 n) ((List.range n.toNat).map λ(i:Nat)=>V.int i):=by
 have gen:∀l:List Nat,Cw W H (l.map λ(k:Nat)=>P.int (0 + (k:Nat))) (l.map λ(i:Nat)=>V.int i):=by
  intro l
  induction l with
  |nil=>exact .nil
  |cons a l b=>exact .cons (Aa.mpr (by rw[Int.zero_add])) b
 have:=gen (List.range n.toNat);unfold Az;rw[Int.sub_zero];exact this
def b7(W:Wd):V->Hp->VK->Prop:=λx H Q=>∃p n,x= .ref p/\H p=some (ZV p n)/\n.natAbs < 2 ^ 61/\n.toNat<=big/\∀l,H l=none->Q (.ref l) (upd H l (.lst ((List.range n.toNat).map λ(i:Nat)=>V.int i)))
theorem NX(d:X.calm=true):Hl X (λv=>call (.type "list") [v]) (b7 W):=by
 intro p0 s Y H x u Q I b h;rintro⟨p,n,rfl,h1,g,i,q⟩:h;cases b;rintro⟨⟨t,u,v,c⟩,_⟩:(show Br X.prog X.w H s.heap p (ZV p n)from I.Aj p _ h1);have f:big=100000:=rfl;refine call_list_range (n:=n.toNat) (I.ok.hd d) c (small_one (by lia) (by lia) (by lia) (by lia)) (by rw[rangeSize_one];split<;>lia) (by lia) λh' tk acc c' kp e hi=>?_
 have a:=Nt hi;refine#[.ref s.heap.objs.size,_,I.laid (t':=tk) (o:=.lst _) kp (Nat.le_refl _) #[?_,acc.toList,c',a,by rw[e]],rfl,q _ (I.Aj.fresh (Nat.le_refl _))];have:=Bw;rw[lM,length_range]
 lia
theorem MY(L:Bb ct X W cf k)(g:ct.own x=true)(f:x="list")(b:ct.own y=true)(d:y="range")(a:A7 e=true)(he:PE X e te):PE X (.Call (.Name x p) [.Call (.Name y q) [e] [] pos'] [] pos) (λY H Q=>te Y H λv H1=>BZ W Ep v H1 Q):=by
 subst f d;refine Ai (Xi (NX (W:=W) L.calm) L g J9 rfl (Xi (Rb (W:=W)) L b Qx a (Cj he))) λY H Q z=>#[_,z,λv H1 ⟨j,c,h1,e,q⟩=>?_]
 rintro⟨ps,e1,e⟩:Ab e;rintro⟨hl,rfl⟩:A3 e;rintro⟨n,i,e1⟩:Ab e1;rintro⟨h,rfl⟩:A3 e1;cases C.AW i;cases AZ h1;have hl:n.toNat<=big:=by simpa[Az]using hl
 exact#[n,rfl,λp a=>#[p,n,rfl,A6,h,hl,λl hl=>q _ _ ((Ar a).trans (Ar hl)) #[l,_,rfl,#[A6,(Ext.of (Ar (o:=ZV p n) a)).none hl],N5 n]]]
theorem Ru(L:Bb ct X W cf k)(h:ct.own x=true)(f:x="list")(b:ct.own y=true)(d:y="reversed")(g:A7 e=true)(he:PE X e te):PE X (.Call (.Name x p) [.Call (.Name y q) [e] [] pos'] [] pos) (λY H Q=>te Y H λv H1=>BZ W Py v H1 Q):=by
 subst f d;rintro⟨g1,g2,_⟩:L.EV h;rintro⟨g3,i,_⟩:L.EV b;refine Ai (KR L.calm g1 g2 g3 i (Cj he) (A2 g [] _) rfl) λY H Q z=>#[_,z,λv H1 ⟨j,c,h1,e,q⟩=>?_]
 rintro⟨ps,e1,rfl⟩:AU e;cases C.Bs e1;rintro⟨a,vs,rfl,k1,k2⟩:CH h1;exact#[a,vs,rfl,L.K▸k1,q.list (Pd.reverse k2)]
theorem W6(L:Bb ct X W cf k){g:C->Option C}{e:Expr}(h:special ct x (.Call (.Name y q) [e] [] pos')=some g)(c:A7 e=true)(he:PE X e te):PE X (.Call (.Name x p) [.Call (.Name y q) [e] [] pos'] [] pos) (λY H Q=>te Y H λv H1=>BZ W g v H1 Q):=by
 have key:∀{z:Str},(ct.DY z (.Call (.Name y q) [e] [] pos')).isSome=true->y=z/\ct.own y=true:=λ{z} h=>by
  rintro⟨a,f⟩:Option.isSome_iff_exists.mp h;rintro⟨_,_,he,d⟩:CU f;cases he;exact#[rfl,d]
 unfold special at h;split at h
 .rename_i b;cases h;simp only[bA,decide_eq_true_eq]at b;rintro⟨k1,k2⟩:key b.2;exact Ru L b.1.1 b.1.2 k2 k1 c he
 split at h
 .rename_i b;cases h;simp only[bA,decide_eq_true_eq]at b;rintro⟨k1,k2⟩:key b.2;exact MY L b.1.1 b.1.2 k2 k1 c he
 .obtain⟨b,rfl⟩:=A3 h;simp only[bA,decide_eq_true_eq]at b;rintro⟨k1,k2⟩:key b.2;exact Rt L b.1.1 b.1.2 k2 k1 c he
theorem Sa{ks:List (Option Expr)}{vs:List Expr}(h:(ks.isEmpty && vs.isEmpty)=true):PE X (.Dict ks vs pos) (λY H Q=>Cc W H (.Bl true []) Q):=by
 rw[bA]at h;cases isEmpty_iff.mp h.1;cases isEmpty_iff.mp h.2;intro p0 s Y H Q I q;have b:(s.heap.objs.size == sysModules)=false:=beq_eq_false_iff_ne.mpr (Ne.symm (Nat.ne_of_lt I.big));have fr:=I.Aj.fresh (Nat.le_refl s.heap.objs.size);refine wpAny_Dict_empty #[.ref s.heap.objs.size,_,I.laid (a:=s.heap.objs.size) (o:=DX s.heap.objs.size []) (t':=s.toks) (λ_ _ q=>gP q) (Nat.le_refl _) ?_,rfl,q _ _ (Ar fr) #[_,[],rfl,#[A6,fr],.nil,.nil,(λ_ z=>(by cases z)),(Nat.zero_le _),b]];have c:(s.heap.push {cls:=.type "dict",data:=.dict [].toArray}).get? s.heap.objs.size=some {cls:=.type "dict",data:=.dict [].toArray}:=Heap.get?_push_size _ rfl;refine#[#[_,c,#[rfl,rfl,rfl],rfl],#[_,c],?_]
 rintro h1 h2 ⟨o,f,e,d⟩ k
 exact#[o,k o f,e,d]
end
section
variable{prog:Program}{w:World}{A:Around}{R:Result->Shared->Prop}
theorem QK{I ax:Addr}{items:Array Value}{b:Nat->Bool}{h0:Heap}(n:ax≠I)(x:A.in1.handled=none)
 (tr:∀(i:Nat) (v:Value),items[i]? =some v->∀s:Shared,(∀b o,b≠I->h0.get? b=some o->s.heap.get? b=some o)->∀(Q:Bool->Shared->Prop) (E:Va),(∀tk,Q (b i) {s with toks:=tk})->wpAny (model prog w) A.in1 (truthy v) Q E s):
 ∀ (m i:Nat) (s:Shared),items.size - i=m->i<=items.size->s.heap.IsListIter I ax i->s.heap.IsList ax items->(∀b o,b≠I->h0.get? b=some o->s.heap.get? b=some o)->
   (∀h' tk,(∀b o,b≠I->h0.get? b=some o->h'.get? b=some o)->R (.ok (.ret (.bool (((List.range items.size).drop i).any b)))) {s with heap:=h',toks:=tk})->
   codeAny (model prog w) A (.builtin "any.loop" #[[.ref I],[]]) R s:=by
 have W:=Walks.list (prog:=prog) (w:=w) x I ax n items;intro m
 induction m with
 |zero=>
   intro i s hm hi hit hl j e;have l:i=items.size:=by lia
   subst l;refine codeAny_builtin F.entry_any_loop ?_;rw[Around.under_plainId F.plain_any_loop _];show wpAny _ A.in1 (pyNext (.ref I) >>= _) _ _ s;refine wB (W.done s _ _ #[hit,hl] λh' tk k=>?_);refine wB (wpAny_rule (wpAny_pure ?_));have:=e h' tk λb o h1 h2=>k b o (by simpa using h1) (j b o h1 h2)
   rwa[List.drop_of_length_le (by simp)]at this
 |succ m t=>
   intro i s hm hi hit hl j e;have hlt:i < items.size:=by lia
   have r:(List.range items.size).drop i=i::(List.range items.size).drop (i + 1):=by
    rw[drop_eq_getElem_cons (by simpa using hlt)];simp
   refine codeAny_builtin F.entry_any_loop ?_;rw[Around.under_plainId F.plain_any_loop _];show wpAny _ A.in1 (pyNext (.ref I) >>= _) _ _ s;refine wB (W.item i s _ _ hlt #[hit,hl] λv h' tk u ⟨d,h⟩ k=>?_);have a:∀b o,b≠I->h0.get? b=some o->h'.get? b=some o:=λb o h1 h2=>k b o (by simpa using h1) (j b o h1 h2)
   refine wB (wpAny_holding (tr i v u _ a _ _ λf=>?_));refine wB (wpAny_letGo ?_);cases q:b i with
   |true=>
     refine wB (wpAny_rule (wpAny_pure ?_));have:=e h' f a;rw[r,any_cons,q,Bool.true_or]at this;exact this
   |false=>
     refine wpAny_pure #[plainId_quiet F.plain_any_loop _,t (i+1) _ (by lia) hlt d h a λp c g=>?_];have:=e p c g;rw[r,any_cons,q,Bool.false_or]at this;exact this
end
theorem Xq:bootBuiltins "any"=some (.builtin "any"):=by decide +kernel
variable{X:Cx}{W:Wd}
theorem Rj{p0:Oa}{Y:L2.St}{H:Hp}{s:Shared}(I:∅){b:Bool}(e:MV p=some b)(h:A5 W H p v)(r:RelV v u):
 (u= .bool b)\/∃l its,u= .ref l/\s.heap.IsList l its/\(its.size:Int) < 2 ^ 63/\(!its.isEmpty)=b:=by
 cases p with
 |bl c=>cases e;cases Cz.mp h;cases r;exact .inl rfl
 |box t ps=>
   cases t with
   |succ _=>cases e
   |zero=>
     cases e;rintro⟨a,vs,rfl,⟨_,o,k1⟩,k2⟩:CN.mp h;cases r;rintro⟨its,d,f,hz⟩:I.list (xs:=vs) (show DP X.K H a vs from .inl (.inr #[o,k1]));have l1:=Paired.length k2;have l2:=d.length;refine .inr #[a,its.toArray,rfl,f.isList,?_,?_]
     .have:sizeLine < 2 ^ 62:=by decide
      simp
      lia
     .cases ps with
      |nil=>cases k2;cases d;rfl
      |cons _ _=>cases k2;cases d;rfl
 |_=>cases e
variable{α:Type}
theorem ML{f:P->Option α}:∀{ps:List P} {bs:List α} {i:Nat} {p:P},Cv f ps=some bs->ps[i]? =some p->∃b,bs[i]? =some b/\f p=some b
 |[],bs,i,p,_,h=>by cases h
 | q::ps,bs,i,p,e,h=>by
   rintro⟨b,e1,e⟩:Ab e;rintro⟨cs,e2,rfl⟩:AU e;cases i with
   |zero=>cases h;exact#[b,rfl,e1]
   |succ i=>exact ML (i:=i) e2 h
theorem Kq{f:P->Option α}:∀{ps:List P} {bs:List α},Cv f ps=some bs->bs.length=ps.length
 |[],bs,e=>by cases e;rfl
 | q::ps,bs,e=>by
   rintro⟨b,e1,e⟩:Ab e;rintro⟨cs,e2,rfl⟩:AU e;rw[lC,lC,Kq e2]
theorem any_range(bs:List Bool):(List.range bs.length).any (λi=>(bs[i]?).getD false)=bs.any id:=by
 rw[Bool.eq_iff_iff,any_eq_true,any_eq_true];constructor
 .rintro⟨i,hi,h⟩
  have hi:=mem_range.mp hi;rw[List.getElem?_eq_getElem hi]at h;exact#[_,getElem_mem hi,h]
 .rintro⟨b,a,h⟩
  rintro⟨i,hi,e⟩:mem_iff_getElem.mp a;exact#[i,mem_range.mpr hi,by rw[List.getElem?_eq_getElem hi,e];exact h]
theorem Yj(B:X.calm=true):Hl X (λv=>call (.builtin "any") [v]) (BZ W anyC):=by
 rintro p0 s Y H x v Q I r ⟨J,c,h1,e,q⟩
 rintro⟨ps,e1,e⟩:Ab e;rintro⟨bs,e2,rfl⟩:AU e;rintro⟨l,vs,rfl,k1,k2⟩:Bn e1 h1;cases r;rintro⟨its,h,f,hz⟩:I.list (show DP X.K H l vs from .inl k1);have l1:=Paired.length k2;have l2:=h.length;have E:=Kq e2;have lt:l < s.heap.objs.size:=hZ f.isList.choose_spec.1;refine call_function_tree F.kind_any F.plain_any F.entry_any (F.args_any1 _) ?_;show wpAny _ X.A.in1 (pyIter (.ref l) >>= λit=>again (.builtin "any.loop" #[[it],[]])) _ _ s;refine wB (wpAny_pyIter_list f.isList ?_);refine wpAny_pure #[plainId_quiet F.plain_any_loop _,?_];refine QK (h0:=s.heap) (b:=λi=>(bs[i]?).getD false) (Nat.ne_of_lt lt) (show X.A.in1.handled=none from I.ok.hd B) (items:=its.toArray) ?_ _ 0 _ rfl (Nat.zero_le _) #[_,Heap.get?_push_size _ rfl,rfl,rfl] (f.isList.at λo e=>gP e) (λb o _ e=>gP e) ?_
 .intro i u j s' g Q' L d;rw[List.getElem?_toArray]at j;rintro⟨y,w,n⟩:Pd.Hg (show Paired RelV vs its from h) j;rintro⟨p,z,t⟩:Pd.Hg k2 w;rintro⟨b,C,D⟩:ML e2 z;replace d:∀tk,Q' ((bs[i]?).getD false) {s' with toks:=tk}:=d;rw[C]at d;rcases Rj I D t n with rfl|⟨a,G,rfl,m,k,rfl⟩
  .exact wpAny_truthy_bool (d _)
  .exact wpAny_truthy_list (m.at λo e=>g a o (Nat.ne_of_lt (hZ e)) e) k (d _)
 .intro h' tk g;rw[drop_zero,size_toArray,show its.length=bs.length by lia,any_range];exact#[.bl (bs.any id),H,I.kept (t':=tk) λb o e=>g b o (Nat.ne_of_lt (hZ e)) e,rfl,q.bl]
section
variable{prog:Program}{w:World}{A:Around}{E:Va}{s:Shared}{d it:Addr}{es:List DictEntry}{ep i:Nat}
theorem Qj{Q:Va}(lo:(d == sysModules)=false)(hm:Ci s.heap d es ep)
 (q:Q (.ref s.heap.objs.size) {s with heap:=s.heap.push {cls:=.type "dict_keyiterator",data:=.fields [.ref d,.int 0 0,.int es.length 0,.int ep 0].toArray}}):wpAny (model prog w) A (pyIter (.ref d)) Q E s:=by
 have ty:=hm.typ;rintro⟨o,h1,h2,a⟩:hm;refine wpAny_pyIter_slot ty PySem.F.slot_dict_iter (wpAny_call_entry PySem.F.slot_dict_iter ty PySem.F.entry_dict_iter ?_ (PySem.F.args_dict_iter_1 _));unfold Builtin.«dict.__iter__» Builtin.Dict.dictSlotNone;refine wB ?_;refine wB (wpAny_notOrdered_dict ty ?_);show wpAny _ _ (pure (Value.ref d)) _ _ s;refine wpAny_pure ?_;show wpAny _ _ (Builtin.Dict.showsAll d >>= _) _ _ s;unfold Builtin.Dict.showsAll;rw[iN (by rw[lo];exact Bool.false_ne_true)];refine wB (wpAny_pure ?_);refine wB (wpAny_dictEntries h1 a (wB (wpAny_dictEpoch h1 a (wB (wpAny_newObj_type (wpAny_pure #[_,rfl,"dict_keyiterator",_,#[_,Heap.get?_push_size _ rfl,rfl],PySem.F.slot_dict_keyiterator_next.lookup,?_]))))));simpa[rawInt]using q
theorem Qi{Q:Option Value->Shared->Prop}(hit:s.heap.IsKeyIter it d i es.length ep)(hm:Ci s.heap d es ep){e:DictEntry}(g:es[i]? =some e)
 (q:∀h',h'.IsKeyIter it d (i+1) es.length ep->Heap.SameBut it s.heap h'->Q (some e.key) {s with heap:=h'}):wpAny (model prog w) A (pyNext (.ref it)) Q E s:=by
 have ty:=hit.typeIs;rintro⟨h,b,f,a⟩:hit;rintro⟨o,h1,h2,c⟩:hm;unfold pyNext;refine wB (wpAny_attempt (wpAny_callSpecial?_slot (name:=Str.ofString "__next__") ty PySem.F.slot_dict_keyiterator_next (wpAny_call_entry PySem.F.slot_dict_keyiterator_next ty PySem.F.entry_dict_keyiterator_next ?_ (PySem.F.args_dict_keyiterator_next_1 _))));refine wB (wpAny_pure ?_);refine wB ?_;refine wB ?_;refine wB (wpAny_typeNameOfWhole_keyiter ty (wpAny_pure (wB (wpAny_fieldsOf b a ?_))));simp only[show Builtin.Dict_items.ownsTuple "dict_keyiterator"=false from by decide,Bool.false_eq_true,if_false];show wpAny _ _ (ite ((Value.ref d == Value.none)=true) _ _) _ _ s;rw[iN (λz:(Value.ref d == Value.none)=true=>Bool.false_ne_true z)];refine wB (wpAny_pure ?_);refine wB (wpAny_dictEntries h1 c ?_);rw[iN (by simp)];refine wB (wpAny_pure ?_);refine wB (wpAny_dictEpoch h1 c ?_);rw[iN (by simp)];have he:es.toArray[i]? =some e:=by rw[List.getElem?_toArray];exact g
 refine wpAny_pure ?_;simp only[show ¬((i:Int) < 0)from by lia,if_false,Int.toNat_natCast,he];refine wB ?_;refine wB (wpAny_typeNameOfWhole_keyiter ty (wpAny_pure (wB (wpAny_isOneOf_keyiter ty ?_))));show wpAny _ _ (setField (.ref it) 1 (rawInt ((i:Int)+1)) >>= _) _ _ s;refine wB (wpAny_setField b a (by simp) ?_)
 have st:(s.heap.update it (Obj.mapFields (·.setIfInBounds 1 (rawInt ((i:Int) + 1))))).IsKeyIter it d (i + 1) es.length ep:=by
  refine#[_,Heap.get?_update_self _ b (Obj.isFreed_of_fields (Obj.data_mapFields a _)),(Obj.cls_mapFields ..).trans f,?_];rw[Obj.data_mapFields a];simp[rawInt]
 refine wB ?_;refine wpAny_holding (wB (wpAny_isOneOf_keyiter (s:={s with heap:=_}) st.typeIs ?_));show wpAny _ _ (pure e.key) _ _ _;exact wpAny_pure (wpAny_pure #[_,rfl,wpAny_pure (q _ st (Heap.SameBut.update ..))])
theorem Tc{Q:Option Value->Shared->Prop}(h:A.handled=none)(hit:s.heap.IsKeyIter it d i es.length ep)(hm:Ci s.heap d es ep)(g:es.length<=i)
 (q:∀h',Heap.ExtBut it s.heap h'->Q none {s with heap:=h'}):wpAny (model prog w) A (pyNext (.ref it)) Q E s:=by
 have ty:=hit.typeIs;rintro⟨j,e,k,c⟩:hit;rintro⟨o,h1,h2,f⟩:hm;unfold pyNext;refine wB (wpAny_attempt (wpAny_callSpecial?_slot (name:=Str.ofString "__next__") ty PySem.F.slot_dict_keyiterator_next (wpAny_call_entry PySem.F.slot_dict_keyiterator_next ty PySem.F.entry_dict_keyiterator_next ?_ (PySem.F.args_dict_keyiterator_next_1 _))));refine wB (wpAny_pure ?_);refine wB ?_;refine wB ?_;refine wB (wpAny_typeNameOfWhole_keyiter ty (wpAny_pure (wB (wpAny_fieldsOf e c ?_))));simp only[show Builtin.Dict_items.ownsTuple "dict_keyiterator"=false from by decide,Bool.false_eq_true,if_false];show wpAny _ _ (ite ((Value.ref d == Value.none)=true) _ _) _ _ s;rw[iN (λz:(Value.ref d == Value.none)=true=>Bool.false_ne_true z)];refine wB (wpAny_pure ?_);refine wB (wpAny_dictEntries h1 f ?_);rw[iN (by simp)];refine wB (wpAny_pure ?_);refine wB (wpAny_dictEpoch h1 f ?_);rw[iN (by simp)];refine wpAny_pure ?_;have he:es.toArray[i]? =none:=by rw[List.getElem?_toArray];exact List.getElem?_eq_none g
 simp only[show ¬((i:Int) < 0)from by lia,if_false,Int.toNat_natCast,he];refine wB ?_;refine wB (wpAny_typeNameOfWhole_keyiter ty (wpAny_pure ?_));show wpAny _ _ (setField (.ref it) 0 .none >>= _) _ _ s;refine wB (wpAny_setField e c (by simp) ?_);show wpAny _ _ (newExc (.type "StopIteration") [] >>= _) _ _ _;refine wB ?_;simp only[newExc,newTuple];refine wB (wpAny_newObj_type (wB (m:=firstArgMember _ _) (wpAny_of_eq (a:=Value.none) (by first|rfl|(simp only[firstArgMember];rfl)) (wpAny_newObj_type ?_ (by size_fits)))) (by size_fits));simp only[raiseNew];refine wB ?_;refine wpAny_handled ?_;rw[show A.in1.handled=none from h];refine wB (wpAny_pure ?_);refine wpAny_throw (wB (wpAny_isInstance (T:="StopIteration") (b:=true) #[_,Heap.get?_push_size _ rfl,rfl] isSubtype_stop (wpAny_pure (q _ ?_))));exact((Heap.SameBut.update ..).extBut.push _).push _
end
section
variable{prog:Program}{w:World}{A:Around}{es:List DictEntry}{ep:Nat}
def QP(es:List DictEntry)(i:Nat)(v:Value):Prop:=∃e,es[i]? =some e/\v=e.key
theorem NA(g:A.handled=none)(I d:Addr)(c:d≠I):Walks prog w A I [I,d] [I] es.length (QP es) (λi h=>h.IsKeyIter I d i es.length ep/\Ci h d es ep) where
 sub:=λb a=>by rw[mE a];exact mS
 frame:=λi h h' x k=>#[x.1.at (k I mS),x.2.at' (k d (mem_cons_of_mem _ mS))]
 item:=λi s Q E hi x q=>by
  refine Qi x.1 x.2 (List.getElem?_eq_getElem hi) λh' y f=>q _ h' s.toks #[_,List.getElem?_eq_getElem hi,rfl] #[y,x.2.at' λo e=>(f.2 d c).trans e] λb o a e=>?_
  exact(f.2 b λz=>a (mem_singleton.mpr z)).trans e
 done:=λs Q E x q=>Tc g x.1 x.2 (Nat.le_refl _) λh' j=>q h' s.toks λb o a e=>j b o (λz=>a (mem_singleton.mpr z)) e
 self:=λi s Q E x q=>wpAny_pyIter_keyiter x.1 q
theorem LC{h:Heap}(x:Ci h d es ep):d < h.objs.size:=let⟨_,h1,_⟩:=x;hZ h1
theorem Tb{d:Addr}(lo:(d == sysModules)=false):KdlSrc prog w "dict" d d es.length (QP es) (λh=>Ci h d es ep) where
 type:=λs x=>x.typ
 there:=λh x=>#[LC x,LC x]
 keep:=λh h' x k=>x.at' (k d (.inl rfl))
 notList:=by decide
 notTuple:=by decide
 hint:=λA E s Q x q=>PySem.W.kdl_hint_dict x.typ q
 iter:=λA s a x=>#[_,_,λE Q q=>Qj lo x q,NA a _ d (Nat.ne_of_lt (LC x)),#[#[_,Heap.get?_push_size _ rfl,rfl,rfl],x.at' λo e=>gP e]]
end
variable{H:Hp}
theorem HF:∀{kvs:List (P×P)} {es:List DictEntry},Paired (FG W H) kvs es->∃vs,Vals vs (es.map (·.key))/\Cw W H (kvs.map (·.1)) vs
 |_,_,.nil=>#[[],.nil,.nil]
 | _,_,.cons r t=>by
   rintro⟨vs,h1,h2⟩:HF t;rintro⟨k,rk,a⟩:r.2.1;exact#[k::vs,.cons rk h1,.cons a h2]
theorem Lh{es:List DictEntry}{acc:Array Value}(h:ItemsOf (QP es) acc es.length):acc.toList=es.map (·.key):=by
 apply ext_getElem?;intro j;have hsz:acc.size=es.length:=h.1
 by_cases a:j < es.length
 .obtain⟨e,h1,h2⟩:=h.2 j (acc[j]'(by lia)) (by simp[hsz,a]);rw[List.getElem?_map,h1,Option.map_some,<-h2];simp[hsz,a]
 .rw[List.getElem?_eq_none (by simp;lia),List.getElem?_eq_none (by simp;lia)]
section
variable{ct:Ct}{cf:CF}{k:Nat}{p0:Oa}{Y:L2.St}{s:Shared}
theorem Gp(hK:W.K=X.K){own bor:Addr->Prop}{c:C}{kvs:List (P×P)}(I:∅)(e:c.Tj =some kvs)(h:AF W H own bor c v):∃a es ep,v= .ref a/\Ci s.heap a es ep/\DE W H a kvs es:=by
 cases c with
 |Bl o qs=>
   cases e;rintro⟨a,es,e1,e2,f⟩:h
   have key:(∃ep,Ci s.heap a es ep):=by
    cases o with
    |true=>exact#[_,Qn I e2.1]
    |false=>
      rcases e2 with e2|⟨b,g1,g2,ep,g3⟩
      .exact#[_,Qn I e2.1]
      .exact#[ep,b,I.GC a b (hK▸g1),g2,g3]
   rintro⟨ep,d⟩:key;exact#[a,es,ep,e1,d,f]
 |_=>cases e
theorem V5(L:Bb ct X W cf k):Hl X (λv=>call (.type "list") [v]) (BZ W CP):=by
 rintro p0 s Y H x v Q I f ⟨j,c,h1,e,q⟩
 rcases or_some e with e|e
 .obtain⟨ps,e1,rfl⟩:=AU e;rintro⟨a,vs,rfl,k1,k2⟩:EU e1 h1;exact J3 p0 s Y H [.ref a] [v] Q I (.cons f .nil) #[a,vs,rfl,L.K▸k1,q.list k2]
 rcases or_some e with e|e
 .obtain⟨ps,e1,e⟩:=Ab e;rintro⟨_,rfl⟩:A3 e;rintro⟨z,i,e1⟩:Ab e1;rintro⟨hl,rfl⟩:A3 e1;cases C.Bt i;cases BI h1;exact Rc L.calm I f hl q
 .obtain⟨kvs,e1,rfl⟩:=AU e;rintro⟨a,es,ep,rfl,hd,ok⟩:Gp L.K I e1 h1;cases f;rintro⟨vs,v1,v2⟩:HF ok.pr;have hlen:=Paired.length ok.pr;have hz:kvs.length<=sizeLine:=Nat.le_trans ok.len Bw;refine PySem.W.kdl_call (Tb ok.sm) (I.ok.hd L.calm) hd (by lia) λh' tk acc c' h g b=>?_
  have d:=Lh b;have g:h'.get? s.heap.objs.size=some (seqObj "list" (es.map (·.key)).toArray c'):=by rw[g,<-d];try simp[seqObj]
  refine#[.ref s.heap.objs.size,_,I.laid (t':=tk) (o:=.lst vs) h (Nat.le_refl _) ?_,rfl,q.list v2 _ (I.Aj.fresh (Nat.le_refl _))];have:=Paired.length v2;exact#[by rw[<-this,lM];exact hz,es.map (·.key),c',v1,g]
theorem Wb(L:Bb ct X W cf k){g:C->Option C}{pos:Pos}{te:TE}(d:ct.own x=true)(a:aA x=some g)(c:A7 e=true)(he:PE X e te):PE X (.Call (.Name x p) [e] [] pos) (λY H Q=>te Y H λv H1=>BZ W g v H1 Q):=by
 unfold aA at a;split at a
 .rename_i b;subst b;cases a;exact T8 L (Yi L.K) d Qy c he
 split at a
 .rename_i b;subst b;cases a;exact ZI L (V5 L) d J9 c he
 split at a
 .rename_i b;subst b;cases a;exact ZI L (Yf L.K) d Kk c he
 split at a
 .rename_i b;subst b;cases a;exact T8 L (Yk L.calm) d Xr c he
 split at a
 .rename_i b;subst b;cases a;exact T8 L (Yj L.calm) d Xq c he
 .obtain⟨rfl,rfl⟩:=A3 a;exact T8 L Yl d Xs c he
end
section
variable{ct:Ct}{cf:CF}{k:Nat}
theorem MI(h:Uv o=true)(name:Str)(env:PySem.Env)(w:Sem Value):attributeBase o name env w=w:=by
 cases o<;>first|rfl|cases h
variable{to te:TE}{ap:Pos}
theorem Ut{T id:String}{name:Str}{g:C->C->Option C}{cp:Pos}(z:PlainAttrs T)(slot:Slot T name id)(d:typeOf (.builtin id)=pure (.type "method_descriptor"))
 (typ:∀{p0 s Y H c y r x v},∅->Dk W H c x->g c y=some r->RelV x v->s.TypeIs v T/\∀b,v= .ref b->∃j,s.heap.get? b=some j/\j.dict=none)
 (hm:∀{p0 s Y H x y v u Q},∅->RelV x v->RelV y u->AV W g x y H Q->(X|||(call (.builtin id) [v,u])) (EP X p0 Y Q) X.xe s)
 (f:Jc 1 ap cp=true)(A:Uv o=true)(he:A7 e=true)(po:PE X o to)(w:PE X e te):
 PE X (.Call (.Attribute o name ap) [e] [] cp) (λY H Q=>to Y H λx H1=>(∃c y r,Dk W H1 c x/\g c y=some r)/\te Y H1 λy H2=>AV W g x y H2 Q):=by
 intro p0 s Y H Q I h;refine wpAny_Call_method_late (MI A _ _ _) (ZK he) (CO f) rfl (AS (po p0 s Y H _ I h) λv s1 ⟨x,H1,m,i,⟨c,y,r,D,B⟩,t⟩=>?_);rintro⟨h1,h2⟩:typ m D B i;refine#[T,id,z,slot,d,h1,h2,?_];have l:=(AB w Bv (A2 he [] _)) cp p0 s1 Y H1 (Sh λy H2=>AV W g x y H2 Q) m t;rw[A2 he [] X.env]at l ⊢;refine Calls.callWith_builtin (by rfl) (Calls.evalArgs_plain ?_);refine AS l λus s2 ⟨vs,H2,E,q,a⟩=>?_
 rintro⟨F,rfl,a⟩:ID a;cases q with
 |cons p n=>
   cases n;exact hm E i p a
variable{p0:Oa}{s:Shared}{H:Hp}
theorem WC(L:Bb ct X W cf k){Y:L2.St}{Q:VK}(I:∅)(f:RelV x v)(d:RelV y u)(h:AV W Ey x y H Q):(X|||(call (.builtin "dict.get") [v,u])) (EP X p0 Y Q) X.xe s:=by
 rintro⟨l,j,c,h1,h2,e,q⟩:h;rintro⟨kvs,e1,e⟩:Ab e;rintro⟨p,e2,e⟩:Ab e;rintro⟨i,rfl⟩:A3 e;cases C.BO e2;rintro⟨a,es,ep,rfl,hd,ok⟩:Gp L.K I e1 h1;cases f;refine wpAny_call_entry PySem.F.slot_dict_get hd.typ PySem.F.entry_dict_get ?_ (PySem.F.args_dict_get_2 _ _);show wpAny _ _ (dictGet a u >>= _) _ _ s;rw[<-L.w];refine wB (GS (by rw[L.w];exact I.Aj) (by rw[L.K];exact I.GC) (by have:=L.un;first|lia|(rw[in1_units];lia)) hd ok i (GY h2) d (λz tk=>?_) λp y z hz g b tk=>wpAny_pure #[_,rfl,?_])
 .show wpAny _ _ (Builtin.Dict.missed a u >>= _) _ _ _;rw[z]at q;exact wB (wpAny_missed_other ok.sm (wpAny_pure #[_,rfl,.AG,H,I.tok tk,rfl,q.plain (Dp.mpr rfl)]))
 .rw[hz]at q;exact#[y,H,I.tok tk,b,q.plain g]
theorem X3:∀{xs:List Str} {us:List Value} {x:Str} {j:Nat},Paired (λz u=>∃t,u=Value.str z t) xs us->xs.idxOf? x=some j->∃h:j < us.length,Mq x us[j]=true/\∀m (hm:m < us.length),m < j->Mq x us[m]=false:=by
 intro xs us x j a b;unfold List.idxOf? at b;rintro⟨h1,h2,c⟩:List.findIdx?_eq_some_iff_getElem.mp b;have hl:=Paired.length a
 have at':∀m (hm:m < us.length),Mq x us[m]=(xs[m]'(by lia) == x):=λm hm=>by
  rintro⟨z,e1,t,e2⟩:Pd.Hg a (List.getElem?_eq_getElem hm);rw[e2,(List.getElem?_eq_some_iff.mp e1).2];rfl
 refine#[by lia,?_,λm hm hlt=>?_]
 .rw[at'];exact h2
 .rw[at'];simpa using c m hlt
theorem Pj(L:Bb ct X W cf k){Y:L2.St}{Q:VK}(I:∅)(l:RelV x v)(i:RelV y u)(h:AV W Dy x y H Q):(X|||(call (.builtin "list.index") [v,u])) (EP X p0 Y Q) X.xe s:=by
 rintro⟨B,A,c,h1,h2,e,q⟩:h;rintro⟨ps,e1,e⟩:Ab e;rintro⟨xs,e2,e⟩:Ab e;rintro⟨z,t,e⟩:Ab e;rintro⟨j,p,rfl⟩:AU e;cases C.Bt t;cases BI h2;rintro⟨tk,rfl⟩:i;rintro⟨a,vs,rfl,k1,k2⟩:Bn e1 h1;cases l;rintro⟨its,r,⟨⟨cl,Bl,dat,sl⟩,n,g,d,hd,b⟩,hz⟩:I.list (.inl k1);have f:=D4 e2 k2 r;rintro⟨g1,g2,g3⟩:X3 f p;have d:cl= .type "list":=d;have b:dat= .seq its.toArray n:=b;subst d b;have hl:=r.length;have w:=D8
 refine call_meets PySem.F.slot_list_index #[_,g,rfl] PySem.F.entry_list_index (PySem.F.args_list_index_2 _ _)
  (SeqAt.list_indexAt a its.toArray n Bl sl (.str z tk) (Mq z) j (by simpa using g1) (by lia) (by simpa using g2) λm hm hlt=>by simpa using g3 m (by simpa using hm) hlt) #[g,λy o=>Lz f y (by simpa using o),?_]
 exact#[.int j,H,I.tok _,#[_,rfl],q.int]
variable{pos:Pos}
theorem W8(L:Bb ct X W cf k){m:Str}{g:C->C->Option C}(f:(m="get"/\g=Ey)\/(m="index"/\g=Dy))(d:Jc 1 ap pos=true)(j:Uv o=true)(he:A7 e=true)(po:PE X o to)(i:PE X e te):
 PE X (.Call (.Attribute o m ap) [e] [] pos) (λY H Q=>to Y H λx H1=>(∃c y r,Dk W H1 c x/\g c y=some r)/\te Y H1 λy H2=>AV W g x y H2 Q):=by
 rcases f with⟨rfl,rfl⟩|⟨rfl,rfl⟩
 .refine Ut PySem.F.plainAttrs_dict PySem.F.slot_dict_get PySem.F.type_dict_get (λI h f r=>?_) (WC L) d j he po i;rintro⟨kvs,e1,_⟩:Ab f;rintro⟨a,es,ep,rfl,hd,ok⟩:Gp L.K I e1 h;cases r;refine#[hd.typ,λb n=>?_];cases n;rintro⟨l,g1,g2,_⟩:hd;exact#[l,g1,g2.2.1]
 .refine Ut PySem.F.plainAttrs_list PySem.F.slot_list_index PySem.F.type_list_index (λI h f r=>?_) (Pj L) d j he po i;rintro⟨ps,e1,_⟩:Ab f;rintro⟨a,vs,rfl,k1,k2⟩:Bn e1 h;exact Kv I r (.inl #[rfl,vs,.inl k1])
theorem Pb:Xx X "str.upper" (λx vs H Q=>x= .str "abcdefghijklmnopqrstuvwxyz"/\vs=[]/\Q (.str "ABCDEFGHIJKLMNOPQRSTUVWXYZ") H):=by
 intro p0 s Y H x vs v us Q I a b h;rintro⟨rfl,rfl,q⟩:h;cases b;rintro⟨t,rfl⟩:a;refine call_gives F.slot_str_upper (typeIs_str _ _ _) F.entry_str_upper (F.args_str_upper_1 _) (gives_str_upper _ t (by kernel_rfl)) ?_;refine#[by decide,#[.str "ABCDEFGHIJKLMNOPQRSTUVWXYZ",H,I.tok _,#[s.toks,?_],q]];exact congrArg (λz=>Value.str #[z] s.toks) (by kernel_rfl)
theorem W5(L:Bb ct X W cf k){m:Str}(hm:m="upper")(a:Jc 0 ap pos=true)(b:Uv o=true)(po:PE X o to):PE X (.Call (.Attribute o m ap) [] [] pos) (λY H Q=>to Y H λv H1=>BZ W Ga v H1 Q):=by
 subst hm;refine Ai (KS PySem.F.plainAttrs_str PySem.F.slot_str_upper PySem.F.type_str_upper Pb (Cj po) (MI b _ _ _) (CO a)) λY H Q z=>#[_,z,λv H1 ⟨d,c,h1,e,q⟩=>?_]
 rintro⟨x,ex,e⟩:Ab e;rintro⟨rfl,rfl⟩:A3 e;cases C.Bt ex;cases BI h1;exact#[rfl,rfl,rfl,q.str]
end
end Nv
namespace PySem
open Sem (wp)
open PyProof.Rows
section
variable{prog:Program}{w:World}{A:Around}{E:Va}{s:Shared}
variable{it:Addr}
theorem AX{i:Nat}{items}{x:Value}{Q:Va}(hit:IsTupIter s.heap it t i)
 (e:IsTup s.heap t items)(d:items[i]? =some x)
 (g:∀h',IsTupIter h' it t (i+1)->Heap.SameBut it s.heap h'->Q x {s with heap:=h'}):
 wpAny (model prog w) A (Builtin.SmallTypes.nextOf (.ref it)) Q E s:=by
 rintro⟨o,a,f,hd⟩:id hit;rintro⟨ol,b,_,nl,c⟩:e;unfold Builtin.SmallTypes.nextOf
 refine wB (wpAny_callSpecial?_slot (name:=Str.ofString "__next__") hit.typeIs slot_tupleiter_next
  (wpAny_call_entry slot_tupleiter_next hit.typeIs entry_tupleiter_next ?_ (args_tupleiter_next _)))
 show wpAny _ _ (field (.ref it) 0 >>= _) _ _ s;refine wB (wpAny_field a hd (x:=.ref t) rfl ?_);show wpAny _ _ (if(Value.ref t == Value.none)=true then _ else _) _ _ s;rw[iN (show ¬((Value.ref t == Value.none)=true)from Bool.false_ne_true)];show wpAny _ _ (field (.ref it) 1 >>= _) _ _ s;refine wB (wpAny_field a hd (x:=.int i 0) rfl ?_);show wpAny _ _ (seqItems? (.ref t) >>= _) _ _ s;refine wB (wpAny_seqItems b c ?_);simp only[Int.toNat_natCast,d];refine wB (wpAny_setField a hd (by simp) (wpAny_pure #[x,rfl,wpAny_pure (g _ ?_ (Heap.SameBut.update ..))]))
 exact⟨_,Heap.get?_update_self _ a (Obj.isFreed_of_fields (Obj.data_mapFields hd _)),(Obj.cls_mapFields ..).trans f,by
  rw[Obj.data_mapFields hd];simp[rawInt]⟩
theorem BQ{i:Nat}{items}{Q:Va}(f:A.handled=none)
 (hit:IsTupIter s.heap it t i)(h:IsTup s.heap t items)(g:items[i]? =none)
 (j:∀h' e,Heap.ExtBut it s.heap h'->(∃o,h'.get? e=some o/\o.cls= .type "StopIteration")->E (.ref e) {s with heap:=h'}):
 wpAny (model prog w) A (Builtin.SmallTypes.nextOf (.ref it)) Q E s:=by
 rintro⟨o,c,k,hd⟩:id hit;rintro⟨ol,b,_,nl,d⟩:h;unfold Builtin.SmallTypes.nextOf
 refine wB (wpAny_callSpecial?_slot (name:=Str.ofString "__next__") hit.typeIs slot_tupleiter_next
  (wpAny_call_entry slot_tupleiter_next hit.typeIs entry_tupleiter_next ?_ (args_tupleiter_next _)))
 show wpAny _ _ (field (.ref it) 0 >>= _) _ _ s;refine wB (wpAny_field c hd (x:=.ref t) rfl ?_);show wpAny _ _ (if(Value.ref t == Value.none)=true then _ else _) _ _ s;rw[iN (show ¬((Value.ref t == Value.none)=true)from Bool.false_ne_true)];show wpAny _ _ (field (.ref it) 1 >>= _) _ _ s;refine wB (wpAny_field c hd (x:=.int i 0) rfl ?_);show wpAny _ _ (seqItems? (.ref t) >>= _) _ _ s;refine wB (wpAny_seqItems b d ?_);simp only[Int.toNat_natCast,g];refine wB (wpAny_rule (wB (wpAny_setField c hd (by simp) ?_)));show wpAny _ _ (newExc (.type "StopIteration") [] >>= _) _ _ _;refine wB ?_;simp only[newExc,newTuple];refine wB (wpAny_newObj_type ?_ (by size_fits));refine wB (m:=firstArgMember _ _) (wpAny_of_eq (a:=Value.none) (by first|rfl|(simp only[firstArgMember];rfl)) ?_);refine wpAny_newObj_type ?_ (by size_fits);simp only[raiseNew];refine wB (wpAny_handled ?_)
 first|rw[show A.in1.handled=none from f]|rw[f]
 refine wB (wpAny_pure (wpAny_throw ?_));exact j _ _ (((Heap.SameBut.update ..).extBut.push _).push _) #[_,Heap.get?_push_size _ rfl,rfl]
abbrev ZG(h:Heap)(z TI TO:Addr)(f0:Value)(f1:Bool):Prop:=
 h.get? z=some {cls:=.type "zip",dict:=none,data:=.fields [f0,.bool f1,.bool false,.ref TI,.ref TO].toArray,slots:=[].toArray}
def F0(f0:Value):Prop:=f0= .none\/∃T:Addr,f0=rawInt T
theorem Eb{Q:Option Obj->Shared->Prop}(h:Q (s.heap.get? a) s):wpAny (model prog w) A (loadIfAlive a) Q E s:=λΓ p _=>by
 show wp _ Γ (Sem.loadIfAlive a Sem.pure) _ _ p s;rw[Sem.wp_loadIfAlive];exact h
theorem LQ{TI TO:Addr}{f1:Bool}{Q:Bool->Shared->Prop}(hz:ZG s.heap z TI TO f0 f1)(hf:F0 f0)(h1:Q true s)(h2:∀h' c,ZG h' z TI TO f0 c->Heap.SameBut z s.heap h'->Q false {s with heap:=h'}):
 wpAny (model prog w) A (Builtin.SmallTypes.ownedTupleIsFree (.ref z)) Q E s:=by
 unfold Builtin.SmallTypes.ownedTupleIsFree;rcases hf with rfl|⟨T,rfl⟩
 .exact wB (wpAny_field hz rfl (x:=.none) rfl (wpAny_pure h1))
 .refine wB (wpAny_field hz rfl (x:=rawInt T) rfl ?_);show wpAny _ _ (loadIfAlive (T:Int).toNat >>= _) _ _ s;refine wB (Eb ?_);cases d:s.heap.get? (T:Int).toNat with
  |none=>exact wpAny_pure h1
  |some o=>
    show wpAny _ _ (field (.ref z) 1 >>= _) _ _ s;refine wB (wpAny_field hz rfl (x:=.bool f1) rfl ?_);cases f1 with
    |true=>
      show wpAny _ _ (pure false) _ _ s;exact wpAny_pure (h2 s.heap true hz (Heap.SameBut.refl ..))
    |false=>
      show wpAny _ _ (setField (.ref z) 1 (.bool true) >>= _) _ _ s;refine wB (wpAny_setField_rec hz (by simp) λh' a b=>wpAny_pure (h2 h' true a b))
end
end PySem
namespace PySem
open Sem (wp)
open PyProof.Rows
section
variable{prog:Program}{w:World}{A:Around}{E:Va}{s:Shared}
variable{k1 k2:Nat}{f1:Bool}
theorem Ic{TI TO:Addr}{xs ys:Array Value}{x y:Value}{Q:Va}(D:ZipApart z TI TO L M l1 l2)
 (hz:ZG s.heap z TI TO f0 f1)(hf:F0 f0)(hTI:IsPair s.heap TI (.ref L) (.ref M))(hTO:IsPair s.heap TO a b)
 (h1:IsTupIter s.heap L l1 k1)(h2:IsTupIter s.heap M l2 k2)(hl1:IsTup s.heap l1 xs)(hl2:IsTup s.heap l2 ys)(hx:xs[k1]? =some x)(hy:ys[k2]? =some y)
 (hQ:∀h' f0' Y a' b',ZG h' z TI TO f0' Y->F0 f0'->IsPair h' TO a' b'->IsTupIter h' L l1 (k1 + 1)->IsTupIter h' M l2 (k2 + 1)->IsPair h' s.heap.objs.size x y->h'.objs.size=s.heap.objs.size + 1->
  (∀c o,c≠z->c≠TO->c≠L->c≠M->s.heap.get? c=some o->h'.get? c=some o)->Q (.ref s.heap.objs.size) {s with heap:=h'}):
 wpAny (model prog w) A (Builtin.«zip.__next__» #[[.ref z],[]]) (λfin s'=>∃v,fin= .done (.ret v)/\Q v s') E s:=by
 show wpAny _ _ (field (.ref z) 2 >>= _) _ _ _;refine wB (wpAny_field hz rfl (x:=.bool false) rfl ?_);show wpAny _ _ (field (.ref z) 3 >>= _) _ _ _;refine wB (wpAny_field hz rfl (x:=.ref TI) rfl ?_);refine wB (wpAny_seqItems hTI rfl ?_);show wpAny _ _ (Builtin.SmallTypes.ownedTupleIsFree (.ref z) >>= _) _ _ _;refine wB (LQ hz hf ?_ λO Y m d=>?_)
 .simp only[if_true];refine wB (wpAny_rule ?_);refine wB (wpAny_field hz rfl (x:=.ref TO) rfl ?_);refine wB (wpAny_setField_rec hz (by simp) λO m d=>?_);replace m:ZG O z TI TO .ellipsis f1:=m;refine wB ?_;simp only[zipIdx_cons,List.zipIdx_nil,forIn_cons,forIn_nil];refine wB (wB (wpAny_onRaise ?_));show wpAny _ _ (Builtin.SmallTypes.nextOf (.ref L) >>= _) _ _ _;refine wB (AX (h1.extBut d.extBut D.i1z) (hl1.extBut d.extBut D.l1z) hx λN G f=>wpAny_pure ?_);have H:IsPair N TO a b:=f.extBut _ _ D.TOi1 (d.extBut _ _ D.TOz hTO);refine wB (wpAny_seqItems H rfl ?_);refine wB (wpAny_updateSeq_pair H λh₃ q j=>?_);replace q:IsPair h₃ TO x b:=q;refine wB (wpAny_letGo (wpAny_pure ?_));refine wB (wB (wpAny_onRaise ?_));show wpAny _ _ (Builtin.SmallTypes.nextOf (.ref M) >>= _) _ _ _
  refine wB (AX (((h2.extBut d.extBut D.i2z).extBut f.extBut D.i12.symm).extBut j.extBut D.TOi2.symm)
   (((hl2.extBut d.extBut D.l2z).extBut f.extBut D.l2i1).extBut j.extBut D.l2TO) hy λi F h=>wpAny_pure ?_)
  have l:IsPair i TO x b:=h.extBut _ _ D.TOi2 q;refine wB (wpAny_seqItems l rfl ?_);refine wB (wpAny_updateSeq_pair l λg k n=>?_);replace k:IsPair g TO x y:=k;refine wB (wpAny_letGo (wpAny_pure (wpAny_pure ?_)));refine wB (wpAny_seqItems k rfl ?_);refine wB (wpAny_newTuple ?_);have hsz:g.objs.size=s.heap.objs.size:=by rw[n.1,h.1,j.1,f.1,d.1]
  have I:ZG g z TI TO .ellipsis f1:=n.extBut _ _ D.TOz.symm (h.extBut _ _ D.i2z.symm (j.extBut _ _ D.TOz.symm (f.extBut _ _ D.i1z.symm m)))
  have T:∀c o,c≠z->c≠TO->c≠L->c≠M->s.heap.get? c=some o->g.get? c=some o:=λc o K c2 c3 Z e=>
   n.extBut _ _ c2 (h.extBut _ _ Z (j.extBut _ _ c2 (f.extBut _ _ c3 (d.extBut _ _ K e))))
  have W:IsTupIter g L l1 (k1+1):=((G.extBut j.extBut D.TOi1.symm).extBut h.extBut D.i12).extBut n.extBut D.TOi1.symm;have V:IsTupIter g M l2 (k2+1):=F.extBut n.extBut D.TOi2.symm;have P:z < g.objs.size:=hZ I;show wpAny _ _ (Builtin.SmallTypes.ownedTupleHandOut (.ref z) (.ref g.objs.size) >>= _) _ _ _;refine wB ?_;unfold Builtin.SmallTypes.ownedTupleHandOut;have R:ZG (g.push {cls:=.type "tuple",data:=.seq [x,y].toArray}) z TI TO .ellipsis f1:=gP I;refine wB (wpAny_setField_rec R (by simp) λh₇ u C=>?_);replace u:ZG h₇ z TI TO (rawInt g.objs.size) f1:=u;refine wpAny_setField_rec u (by simp) λt p B=>?_
  replace p:ZG t z TI TO (rawInt g.objs.size) false:=p;have up:∀c o,c≠z->g.get? c=some o->t.get? c=some o:=λc o K e=>B.extBut _ _ K (C.extBut _ _ K (gP e))
  have J:IsPair t g.objs.size x y:=B.extBut _ _ (Nat.ne_of_gt P) (C.extBut _ _ (Nat.ne_of_gt P) (Heap.get?_push_size _ rfl));have hz8:t.objs.size=g.objs.size+1:=by rw[B.1,C.1,Heap.size_push]
  rw[hsz]at p J hz8;refine wpAny_pure #[_,rfl,?_];show Q (.ref g.objs.size) _;rw[hsz];exact hQ t _ _ x y p (.inr #[_,rfl]) (up _ _ D.TOz k) (let⟨o,e,r⟩:=W;#[o,up _ o D.i1z e,r]) (let⟨o,e,r⟩:=V;#[o,up _ o D.i2z e,r]) J hz8 λc o K c2 c3 Z e=>up c o K (T c o K c2 c3 Z e)
 .simp only[Bool.false_eq_true,if_false];refine wB ?_;simp only[<-Array.forIn_toList,forIn_cons,forIn_nil];refine wB (wB (wpAny_holding ?_));show wpAny _ _ (Builtin.SmallTypes.nextOf (.ref L) >>= _) _ _ _;refine wB (AX (h1.extBut d.extBut D.i1z) (hl1.extBut d.extBut D.l1z) hx λN G f=>wpAny_pure ?_);refine wpAny_pure ?_;refine wB (wB (wpAny_holding ?_));show wpAny _ _ (Builtin.SmallTypes.nextOf (.ref M) >>= _) _ _ _
  refine wB (AX ((h2.extBut d.extBut D.i2z).extBut f.extBut D.i12.symm)
   ((hl2.extBut d.extBut D.l2z).extBut f.extBut D.l2i1) hy λi F h=>wpAny_pure ?_)
  refine wpAny_pure (wpAny_pure ?_);refine wB (wpAny_newTuple (hsz:=by show 2<=sizeLine;rw[sizeLine_eq];omega) ?_);have hsz:i.objs.size=s.heap.objs.size:=by rw[h.1,f.1,d.1]
  have S:ZG i z TI TO f0 Y:=h.extBut _ _ D.i2z.symm (f.extBut _ _ D.i1z.symm m)
  have U:∀c o,c≠z->c≠TO->c≠L->c≠M->s.heap.get? c=some o->i.get? c=some o:=λc o K c2 c3 Z e=>
   h.extBut _ _ Z (f.extBut _ _ c3 (d.extBut _ _ K e))
  have l:IsPair i TO a b:=h.extBut _ _ D.TOi2 (f.extBut _ _ D.TOi1 (d.extBut _ _ D.TOz hTO));have X:IsTupIter i L l1 (k1+1):=G.extBut h.extBut D.i12;have up:∀c o,i.get? c=some o->(i.push {cls:=.type "tuple",data:=.seq [x,y].toArray}).get? c=some o:=λc o e=>gP e
  refine wpAny_pure #[_,rfl,?_];show Q (.ref i.objs.size) _;have hT:IsPair (i.push {cls:=.type "tuple",data:=.seq [x,y].toArray}) i.objs.size x y:=Heap.get?_push_size _ rfl;rw[hsz]at hT ⊢;exact hQ _ _ _ a b (up _ _ S) hf (up _ _ l) (let⟨o,e,r⟩:=X;#[o,up _ o e,r]) (let⟨o,e,r⟩:=F;#[o,up _ o e,r]) hT (by rw[Heap.size_push,hsz]) λc o K c2 c3 Z e=>up c o (U c o K c2 c3 Z e)
theorem Jf{TI TO:Addr}{xs ys:Array Value}{Q:Fin->Shared->Prop}(N:A.handled=none)(D:ZipApart z TI TO Z J l1 l2)
 (hz:ZG s.heap z TI TO f0 f1)(hf:F0 f0)(U:IsPair s.heap TI (.ref Z) (.ref J))(T:IsPair s.heap TO a b)
 (h1:IsTupIter s.heap Z l1 k1)(h2:IsTupIter s.heap J l2 k2)(u:IsTup s.heap l1 xs)(M:IsTup s.heap l2 ys)(C:xs[k1]? =none\/ys[k2]? =none)
 (P:∀h' e,(∀c o,c≠z->c≠TO->c≠Z->c≠J->s.heap.get? c=some o->h'.get? c=some o)->(∃o,h'.get? e=some o/\o.cls= .type "StopIteration")->E (.ref e) {s with heap:=h'}):
 wpAny (model prog w) A (Builtin.«zip.__next__» #[[.ref z],[]]) Q E s:=by
 show wpAny _ _ (field (.ref z) 2 >>= _) _ _ _;refine wB (wpAny_field hz rfl (x:=.bool false) rfl ?_);show wpAny _ _ (field (.ref z) 3 >>= _) _ _ _;refine wB (wpAny_field hz rfl (x:=.ref TI) rfl ?_);refine wB (wpAny_seqItems U rfl ?_);show wpAny _ _ (Builtin.SmallTypes.ownedTupleIsFree (.ref z) >>= _) _ _ _;refine wB (LQ hz hf ?_ λB W i d=>?_)
 .simp only[if_true];refine wB (wpAny_rule ?_);refine wB (wpAny_field hz rfl (x:=.ref TO) rfl ?_);refine wB (wpAny_setField_rec hz (by simp) λB i d=>?_);replace i:ZG B z TI TO .ellipsis f1:=i;refine wB ?_;simp only[zipIdx_cons,List.zipIdx_nil,forIn_cons,forIn_nil];refine wB (wB (wpAny_onRaise ?_));show wpAny _ _ (Builtin.SmallTypes.nextOf (.ref Z) >>= _) _ _ _;cases F:xs[k1]? with
  |none=>
    refine wB (BQ N (h1.extBut d.extBut D.i1z) (u.extBut d.extBut D.l1z) F λj e f he=>?_);rintro⟨R,l,t⟩:he;have q:ZG j z TI TO .ellipsis f1:=f _ _ D.i1z.symm i;have G:e≠z:=λx=>by subst x;rw[q]at l;cases l;simp at t
    refine wpAny_setField_rec q (by simp) λy _ g=>P y e (λc o v _ I _ x=>g.extBut _ _ v (f _ _ I (d.extBut _ _ v x))) #[R,g.extBut _ _ G l,t]
  |some x=>
    have S:ys[k2]? =none:=by rcases C with h|h;rw[F]at h;cases h;exact h
    refine wB (AX (h1.extBut d.extBut D.i1z) (u.extBut d.extBut D.l1z) F λj H f=>wpAny_pure ?_);have m:IsPair j TO a b:=f.extBut _ _ D.TOi1 (d.extBut _ _ D.TOz T);refine wB (wpAny_seqItems m rfl ?_);refine wB (wpAny_updateSeq_pair m λy O g=>?_);refine wB (wpAny_letGo (wpAny_pure ?_));refine wB (wB (wpAny_onRaise ?_));show wpAny _ _ (Builtin.SmallTypes.nextOf (.ref J) >>= _) _ _ _
    refine wB (BQ N (((h2.extBut d.extBut D.i2z).extBut f.extBut D.i12.symm).extBut g.extBut D.TOi2.symm)
     (((M.extBut d.extBut D.l2z).extBut f.extBut D.l2i1).extBut g.extBut D.l2TO) S λn e k he=>?_)
    rintro⟨R,l,t⟩:he;have p:ZG n z TI TO .ellipsis f1:=k _ _ D.i2z.symm (g.extBut _ _ D.TOz.symm (f.extBut _ _ D.i1z.symm i));have G:e≠z:=λx=>by subst x;rw[p]at l;cases l;simp at t
    refine wpAny_setField_rec p (by simp) λL _ r=>P L e (λc o v X I V x=>r.extBut _ _ v (k _ _ V (g.extBut _ _ X (f.extBut _ _ I (d.extBut _ _ v x))))) #[R,r.extBut _ _ G l,t]
 .simp only[Bool.false_eq_true,if_false];refine wB ?_;simp only[<-Array.forIn_toList,forIn_cons,forIn_nil];refine wB (wB (wpAny_holding ?_));show wpAny _ _ (Builtin.SmallTypes.nextOf (.ref Z) >>= _) _ _ _;cases F:xs[k1]? with
  |none=>
    refine wB (BQ N (h1.extBut d.extBut D.i1z) (u.extBut d.extBut D.l1z) F λj e f he=>?_);exact P j e (λc o v _ I _ x=>f _ _ I (d.extBut _ _ v x)) he
  |some x=>
    have S:ys[k2]? =none:=by rcases C with h|h;rw[F]at h;cases h;exact h
    refine wB (AX (h1.extBut d.extBut D.i1z) (u.extBut d.extBut D.l1z) F λj H f=>wpAny_pure ?_);refine wpAny_pure ?_;refine wB (wB (wpAny_holding ?_));show wpAny _ _ (Builtin.SmallTypes.nextOf (.ref J) >>= _) _ _ _
    refine wB (BQ N ((h2.extBut d.extBut D.i2z).extBut f.extBut D.i12.symm)
     ((M.extBut d.extBut D.l2z).extBut f.extBut D.l2i1) S λn e k he=>?_)
    exact P n e (λc o v _ I V x=>k _ _ V (f.extBut _ _ I (d.extBut _ _ v x))) he
end
end PySem
namespace PySem
open Sem (wp)
open PyProof.Rows
section
variable{prog:Program}{w:World}{A:Around}{E:Va}{s:Shared}
variable{f1:Bool}
theorem Ib{TI TO:Addr}(hz:ZG s.heap z TI TO f0 f1):s.TypeIs (.ref z) "zip":=#[_,hz,rfl]
theorem LP{TI TO:Addr}{Q:Va}(hz:ZG s.heap z TI TO f0 f1)(h:Q (.ref z) s):wpAny (model prog w) A (pyIter (.ref z)) Q E s:=by
 have a:=Ib hz;refine wpAny_pyIter_slot a F.slot_zip_iter (wpAny_call_entry F.slot_zip_iter a F.entry_zip_iter ?_ (F.args_zip_iter_1 _));show wpAny _ _ (ret (.ref z)) _ _ s;exact wpAny_pure #[_,rfl,"zip",_,a,F.slot_zip_next.lookup,h]
variable{k1 k2:Nat}
theorem QY{TI TO:Addr}{xs ys:Array Value}{x y:Value}{Q:Option Value->Shared->Prop}(D:ZipApart z TI TO g f l1 l2)
 (hz:ZG s.heap z TI TO f0 f1)(hf:F0 f0)(k:IsPair s.heap TI (.ref g) (.ref f))(j:IsPair s.heap TO a b)
 (h1:IsTupIter s.heap g l1 k1)(h2:IsTupIter s.heap f l2 k2)(i:IsTup s.heap l1 xs)(h:IsTup s.heap l2 ys)(r:xs[k1]? =some x)(q:ys[k2]? =some y)
 (t:∀h' d e n l,ZG h' z TI TO d e->F0 d->IsPair h' TO n l->IsTupIter h' g l1 (k1 + 1)->IsTupIter h' f l2 (k2 + 1)->IsPair h' s.heap.objs.size x y->h'.objs.size=s.heap.objs.size + 1->
  (∀c o,c≠z->c≠TO->c≠g->c≠f->s.heap.get? c=some o->h'.get? c=some o)->Q (some (.ref s.heap.objs.size)) {s with heap:=h'}):
 wpAny (model prog w) A (pyNext (.ref z)) Q E s:=by
 have p:=Ib hz;unfold pyNext
 exact wB (wpAny_attempt (wpAny_callSpecial?_slot (name:=Str.ofString "__next__") p F.slot_zip_next
  (wpAny_call_entry F.slot_zip_next p F.entry_zip_next
   (Ic D hz hf k j h1 h2 i h r q λh' d e n l a1 m a2 G C B v u=>wpAny_pure (t h' d e n l a1 m a2 G C B v u)) (F.args_zip_next_1 _))))
theorem UY{TI TO:Addr}{xs ys:Array Value}{Q:Option Value->Shared->Prop}(p:A.handled=none)(D:ZipApart z TI TO g f l1 l2)
 (hz:ZG s.heap z TI TO f0 f1)(hf:F0 f0)(k:IsPair s.heap TI (.ref g) (.ref f))(j:IsPair s.heap TO a b)
 (h1:IsTupIter s.heap g l1 k1)(h2:IsTupIter s.heap f l2 k2)(i:IsTup s.heap l1 xs)(h:IsTup s.heap l2 ys)(d:xs[k1]? =none\/ys[k2]? =none)
 (r:∀h',(∀c o,c≠z->c≠TO->c≠g->c≠f->s.heap.get? c=some o->h'.get? c=some o)->Q none {s with heap:=h'}):wpAny (model prog w) A (pyNext (.ref z)) Q E s:=by
 have l:=Ib hz;unfold pyNext
 refine wB (wpAny_attempt (wpAny_callSpecial?_slot (name:=Str.ofString "__next__") l F.slot_zip_next
  (wpAny_call_entry F.slot_zip_next l F.entry_zip_next (Jf p D hz hf k j h1 h2 i h d λh' e n he=>?_) (F.args_zip_next_1 _))))
 rintro⟨o,m,q⟩:he;refine wB (wpAny_isInstance (T:="StopIteration") (b:=true) #[o,m,q] isSubtype_stop ?_);exact wpAny_pure (r _ n)
structure ZS(z TI TO i1 i2 l1 l2:Addr)(xs ys:Array Value)(i:Nat)(h:Heap):Prop where
 zg:∃f0 f1,ZG h z TI TO f0 f1/\F0 f0
 ti:IsPair h TI (.ref i1) (.ref i2)
 to:∃a b,IsPair h TO a b
 dk:IsTupIter h i1 l1 i
 dj:IsTupIter h i2 l2 i
 t1:IsTup h l1 xs
 t2:IsTup h l2 ys
theorem UX{elts:List Expr}{e:Nat}{pos:Pos}{TI TO:Addr}{Q:Unit->Shared->Prop}(hz:ZG s.heap z TI TO f0 f1)(hf:F0 f0)(h:∀h' b,ZG h' z TI TO b f1->F0 b->Heap.SameBut z s.heap h'->Q () {s with heap:=h'}):
 wpAny (model prog w) A (letOwnedTupleGo (.Tuple elts e pos) (.ref z) (.ref a)) Q E s:=by
 unfold letOwnedTupleGo;refine wB (wpAny_load hz ?_);refine wpAny_ite_split (λ_=>?_) (λ_=>wpAny_pure (h s.heap f0 hz hf (Heap.SameBut.refl ..)));refine wB (wpAny_rule ?_);show wpAny _ _ (setField (.ref z) 0 .none) _ _ _;exact wpAny_setField_rec hz (by simp) λh' c d=>h h' .none c (.inl rfl) d
end
abbrev R6(h:Heap)(l1:Addr):Heap:=h.push {cls:=.type "tuple_iterator",data:=.fields [.ref l1,.int 0 0].toArray}
abbrev R5(h:Heap)(l1 l2:Addr):Heap:=(R6 h l1).push {cls:=.type "tuple_iterator",data:=.fields [.ref l2,.int 0 0].toArray}
abbrev R4(h:Heap)(l1 l2:Addr):Heap:=(R5 h l1 l2).push {cls:=.type "tuple",data:=.seq [.ref h.objs.size,.ref (R6 h l1).objs.size].toArray}
abbrev QZ(h:Heap)(l1 l2:Addr):Heap:=(R4 h l1 l2).push {cls:=.type "tuple",data:=.seq [.none,.none].toArray}
abbrev Jg(h:Heap)(l1 l2:Addr):Heap:=(QZ h l1 l2).push {cls:=.type "zip",data:=.fields [.none,.bool false,.bool false,.ref (R5 h l1 l2).objs.size,.ref (R4 h l1 l2).objs.size].toArray}
theorem IG(l1 l2:Addr)(xs ys:Array Value):
 Meets (Builtin.«zip.__new__» #[[.type "zip",.ref l1,.ref l2],[]]) (λ_ R s=>IsTup s.heap l1 xs/\IsTup s.heap l2 ys/\
  R (.ok (.ret (.ref (QZ s.heap l1 l2).objs.size))) {s with heap:=Jg s.heap l1 l2}):=
 .of_wp λprog w A R s h=>by
  rintro⟨i,g,d,tk,os⟩:s;rintro⟨b,a,h⟩:h;have f:=sub_zip;have e:IsTup (Shared.heap #[i,g,d,tk,os]) l1 xs:=b;have c:IsTup (Shared.heap #[i.push {cls:=.type "tuple_iterator",data:=.fields [.ref l1,.int 0 0].toArray},g,d,tk,os]) l2 ys:=a.push _
  wp_walk using iter_tuple e,iter_tuple c
  exact#[_,rfl,h]
section
variable{prog:Program}{w:World}{A:Around}{E:Va}{s:Shared}
theorem Tx{xs ys:Array Value}{Q:Va}(b:IsTup s.heap l1 xs)(a:IsTup s.heap l2 ys)
 (h:∀h',ZS (s.heap.objs.size + 4) (s.heap.objs.size + 2) (s.heap.objs.size + 3) s.heap.objs.size (s.heap.objs.size + 1) l1 l2 xs ys 0 h'->ZipApart (s.heap.objs.size + 4) (s.heap.objs.size + 2) (s.heap.objs.size + 3) s.heap.objs.size (s.heap.objs.size + 1) l1 l2->h'.objs.size=s.heap.objs.size + 5->
   (∀c o,s.heap.get? c=some o->h'.get? c=some o)->Q (.ref (s.heap.objs.size+4)) {s with heap:=h'}):
 wpAny (model prog w) A (call (.type "zip") [.ref l1,.ref l2]) Q E s:=by
 refine callType_new F.called_zip (by decide) (F.typeCall_zip_2 _ _) (F.newCall_zip_2 _ _) (λobj=>F.args_object_init_3 obj _ _) F.entry_zip_new
  (IG l1 l2 xs ys) #[b,a,?_]
 have g:(R6 s.heap l1).objs.size=s.heap.objs.size+1:=Heap.size_push ..;have f:(R5 s.heap l1 l2).objs.size=s.heap.objs.size+2:=by rw[Heap.size_push,g]
 have e:(R4 s.heap l1 l2).objs.size=s.heap.objs.size+3:=by rw[Heap.size_push,f]
 have d:(QZ s.heap l1 l2).objs.size=s.heap.objs.size+4:=by rw[Heap.size_push,e]
 have m:(Jg s.heap l1 l2).objs.size=s.heap.objs.size+5:=by rw[Heap.size_push,d]
 have i:(Jg s.heap l1 l2).get? (QZ s.heap l1 l2).objs.size=some _:=Heap.get?_push_size _ rfl;have l:(Jg s.heap l1 l2).get? (R4 s.heap l1 l2).objs.size=some _:=gP (Heap.get?_push_size _ rfl);have g3:(Jg s.heap l1 l2).get? (R5 s.heap l1 l2).objs.size=some _:=gP (gP (Heap.get?_push_size _ rfl));have g2:(Jg s.heap l1 l2).get? (R6 s.heap l1).objs.size=some _:=gP (gP (gP (Heap.get?_push_size _ rfl)));have g1:(Jg s.heap l1 l2).get? s.heap.objs.size=some _:=gP (gP (gP (gP (Heap.get?_push_size _ rfl))))
 have kp:∀c o,s.heap.get? c=some o->(Jg s.heap l1 l2).get? c=some o:=λc o x=>
  gP (gP (gP (gP (gP x))))
 have k:=b.lt;have j:=a.lt;show _/\_;rw[f,e,d]at i;rw[g,f]at g3;rw[e]at l;rw[g]at g2;rw[d];refine#[#[_,i,rfl],h _ #[#[_,_,i,.inl rfl],g3,#[_,_,l],#[_,g1,rfl,rfl],#[_,g2,rfl,rfl],b.keeps kp,a.keeps kp] ?_ m kp];constructor<;>(intro q;(try simp at q))<;>(first|exact absurd q (Nat.ne_of_lt (by first|exact k|exact j|exact Nat.lt_of_lt_of_le k (Nat.le_add_right _ _)|exact Nat.lt_of_lt_of_le j (Nat.le_add_right _ _)))|(exact absurd q (by first|exact Nat.ne_of_lt (Nat.lt_add_of_pos_right (by decide))|skip)))
end
end PySem
namespace Nv
open PySem L2 PyProof.Rows
section
variable{X:Cx}{W:Wd}{ct:Ct}{cf:CF}{k:Nat}
variable{p0:Oa}{H:Hp}{s:Shared}{h':Heap}{t':Nat}{ch:List Addr}
theorem WZ{Y:L2.St}{o:HO}(I:∅)(k:∀b o,b∉ch->s.heap.get? b=some o->h'.get? b=some o)
 (c:∀e∈ch,H e=none/\e≠X.env.locals/\(e∈X.ex\/X.s₀.heap.objs.size<=e)/\(∀x c,X.env.cells.lookup x=some c->c≠e)/\∀p∈X.pn++p0,p.1≠e)
 (new:Br X.prog X.w (upd H s.heap.objs.size o) h' s.heap.objs.size o):Inv X p0 Y (upd H s.heap.objs.size o) {s with heap:=h',toks:=t'}:=by
 have fr:=I.Aj.fresh (Nat.le_refl s.heap.objs.size);have f:∀b u,H b=some u->b∉ch:=λb u q z=>by rw[(c b z).1]at q;cases q
 have nf:∀b u,H b=some u->upd H s.heap.objs.size o b=some u:=λb u q=>by rw[A4 (AI q fr)];exact q
 refine I.step (g':=s.gens) (d':=s.drawn) (ch:=ch) (λb d=>#[(c b d).2.2.1,(c b d).2.1,(c b d).2.2.2]) (λb o _ _ a q _=>k b o a q) (λb o _ _ a q _=>#[o.slots,k b o a q]) (λb o' _ q n=>by rw[A4 (Nat.ne_of_lt (hZ q))];exact n)
  (λb o a q=>#[o,k b o a q]) (λ_ _ q=>nf _ _ q) (λ_ _ _ q=>nf _ _ q) (λb ps q=>#[[].toArray,by rw[nf _ _ q];simp]) (λm hm=>?_) (λb u q=>?_) I.bare
 .obtain⟨o,es,ep,g,r⟩:=hm;exact#[o,es,ep,k _ o (λz=>(c _ z).2.1 rfl) g,r]
 .by_cases d:b=s.heap.objs.size
  .subst d;rw[A6]at q;cases q;exact new
  .rw[A4 d]at q;refine(I.Aj b u q).H9 (λc v a z=>?_) (λc z=>nf _ _ z) λ_ _ z=>nf _ _ z
   rcases a with y|y
   .rw[y]at z ⊢;exact k b v (f b u q) z
   .exact k c v (f c _ y) z
theorem T2{Y:L2.St}(I:∅)(k:∀b o,b∉ch->s.heap.get? b=some o->h'.get? b=some o)
 (c:∀e∈ch,H e=none/\e≠X.env.locals/\(e∈X.ex\/X.s₀.heap.objs.size<=e)/\(∀x c,X.env.cells.lookup x=some c->c≠e)/\∀p∈X.pn++p0,p.1≠e):Inv X p0 Y H {s with heap:=h',toks:=t'}:=by
 have d:∀b u,H b=some u->b∉ch:=λb u q z=>by rw[(c b z).1]at q;cases q
 refine I.step (g':=s.gens) (d':=s.drawn) (ch:=ch) (λb f=>#[(c b f).2.2.1,(c b f).2.1,(c b f).2.2.2]) (λb o _ _ a q _=>k b o a q) (λb o _ _ a q _=>#[o.slots,k b o a q]) (λb o' _ q n=>n)
  (λb o a q=>#[o,k b o a q]) (λ_ _ q=>q) (λ_ _ _ q=>q) (λb ps q=>#[[].toArray,by rw[q];simp]) (λm hm=>?_) (λb u q=>?_) I.bare
 .obtain⟨o,es,ep,g,r⟩:=hm;exact#[o,es,ep,k _ o (λz=>(c _ z).2.1 rfl) g,r]
 .refine(I.Aj b u q).H9 (λc v a z=>?_) (λc z=>z) λ_ _ z=>z
  rcases a with y|y
  .rw[y]at z ⊢;exact k b v (d b u q) z
  .exact k c v (d c _ y) z
noncomputable def dJ(K:Frag)(l1 l2:Addr):It:=
 #[λi H=>∃xs ys x y,D2 K H l1 xs/\D2 K H l2 ys/\xs[i]? =some x/\ys[i]? =some y,λi H x H'=>∃p u v,x= .ref p/\H p=none/\H'=upd H p (.tup [u,v])/\(∀xs,D2 K H l1 xs->xs[i]? =some u)/\∀ys,D2 K H l2 ys->ys[i]? =some v,λi H=>∃xs ys,D2 K H l1 xs/\D2 K H l2 ys/\(xs.length<=i\/ys.length<=i)]
structure Zt(z TI TO i1 i2 l1 l2:Addr)(i:Nat)(h:Heap):Prop where
 zg:∃f0 f1,ZG h z TI TO f0 f1/\F0 f0
 ti:IsPair h TI (.ref i1) (.ref i2)
 to:∃a b,IsPair h TO a b
 dk:IsTupIter h i1 l1 i
 dj:IsTupIter h i2 l2 i
theorem NY{P:Program}{w:World}{K:Frag}{es:List Expr}{n:Nat}{tp:Pos}{TI TO:Addr}(D:ZipApart z TI TO iQ9 B l1 l2):Turn P w K (.Tuple es n tp) (dJ K l1 l2) [z,TI,TO,iQ9,B] z (Zt z TI TO iQ9 B l1 l2) where
 mem:=by simp
 obj:=λi h st b d=>by
  rintro⟨⟨f0,f1,h1,_⟩,h2,⟨a,c,m⟩,⟨Q,g,c4,d4⟩,⟨O,f,c5,d5⟩⟩:st;simp only[mem_cons,not_mem_nil,or_false]at d;rcases d with rfl|rfl|rfl|rfl|rfl
  .exact#[_,h1,λv z=>by cases z]
  .exact#[_,h2,λv z=>by cases z]
  .exact#[_,m,λv z=>by cases z]
  .exact#[_,g,λv z=>by rw[d4]at z;cases z]
  .exact#[_,f,λv z=>by rw[d5]at z;cases z]
 keep:=λi h h' st k=>by
  rintro⟨⟨f0,f1,h1,hf⟩,h2,⟨a,c,m⟩,⟨Q,g,r4⟩,⟨O,f,r5⟩⟩:st;exact#[#[f0,f1,k _ (by simp) _ h1,hf],k _ (by simp) _ h2,#[a,c,k _ (by simp) _ m],#[Q,k _ (by simp) _ g,r4],#[O,k _ (by simp) _ f,r5]]
 item:=by
  intro X V hw hK hc i p0 s Y H E I hf st U;subst V hw hK;rintro⟨xs,ys,x,y,l,j,T,G⟩:U;rintro⟨its,M,p,hz⟩:I.tuple l;rintro⟨R,rw,N,S⟩:I.tuple j;rintro⟨u,hu,ru⟩:M.get T;rintro⟨v,hv,L⟩:rw.get G;rintro⟨⟨f0,f1,h1,t⟩,h2,⟨a,c,m⟩,g,f⟩:st;refine QY D h1 t h2 m g f p N (x:=u) (y:=v) (by simpa using hu) (by simpa using hv) λh' g0 g1 a' b' z1 z2 z3 z4 z5 z6 z7 z8=>#[_,rfl,?_]
  refine UX (s:={s with heap:=h'}) z1 z2 λF f0' b1 b0 A=>?_
  have nz:s.heap.objs.size≠z:=Nat.ne_of_gt (hZ h1)
  have I2:Inv X p0 Y (upd H s.heap.objs.size (.tup [x,y])) {s with heap:=F,toks:=s.toks}:=WZ (ch:=[z,TO,iQ9,B]) I (λb o d q=>by
   simp only[mem_cons,not_mem_nil,or_false,not_or]at d;exact A.extBut b o d.1 (z8 b o d.1 d.2.1 d.2.2.1 d.2.2.2 q)) (λe he=>by
   rintro⟨f0,f1,f2,f3,f4,Z⟩:hf e (by simp only[mem_cons,not_mem_nil,or_false]at he ⊢;rcases he with h|h|h|h<;>simp[h])
   exact#[f0,f1,f3,f4,Z]) #[by simp[sizeLine],[u,v],.cons ru (.cons L .nil),_,A.extBut _ _ nz z6,rfl,_,rfl]
  have fr:=I.Aj.fresh (Nat.le_refl s.heap.objs.size);have J:Zt z TI TO iQ9 B l1 l2 (i+1) F:=#[#[f0',g1,b1,b0],A.extBut _ _ D.TIz (z8 _ _ D.TIz D.TITO D.TIi1 D.TIi2 h2),#[a',b',A.extBut _ _ D.TOz z3],let⟨o,e,r⟩:=z4;#[o,A.extBut _ _ D.i1z e,r],let⟨o,e,r⟩:=z5;#[o,A.extBut _ _ D.i2z e,r]];refine#[.ref s.heap.objs.size,_,I2,rfl,#[_,x,y,rfl,fr,rfl,λzs G=>by rw[I.EO G l];exact T,λzs hz=>by rw[I.EO hz j];exact G],J,λb d=>?_]
  have:b≠s.heap.objs.size:=by
   rintro⟨Q,g,_⟩:g;rintro⟨O,f,_⟩:f;simp only[mem_cons,not_mem_nil,or_false]at d;rcases d with rfl|rfl|rfl|rfl|rfl
   .exact Nat.ne_of_lt (hZ h1)
   .exact Nat.ne_of_lt (hZ h2)
   .exact Nat.ne_of_lt (hZ m)
   .exact Nat.ne_of_lt (hZ g)
   .exact Nat.ne_of_lt (hZ f)
  rw[A4 this];exact(hf b d).1
 done:=by
  intro X V hw hK hc i p0 s Y H E I hf st U;subst V hw hK;rintro⟨xs,ys,l,j,T⟩:U;rintro⟨its,M,p,hz⟩:I.tuple l;rintro⟨R,rw,N,S⟩:I.tuple j;rintro⟨⟨f0,f1,h1,t⟩,h2,⟨a,c,m⟩,g,f⟩:st;have hl:=M.length;have hl':=rw.length;refine UY (I.ok.hd hc) D h1 t h2 m g f p N (by simp;lia) λh' eb=>#[rfl,T2 (t':=s.toks) (ch:=[z,TO,iQ9,B]) I (λb o d e=>?_) λe he=>?_]
  .simp only[mem_cons,not_mem_nil,or_false,not_or]at d;exact eb b o d.1 d.2.1 d.2.2.1 d.2.2.2 e
  .obtain⟨f0,f1,f2,f3,f4,Z⟩:=hf e (by simp only[mem_cons,not_mem_nil,or_false]at he ⊢;rcases he with h|h|h|h<;>simp[h]);exact#[f0,f1,f3,f4,Z]
 self:=λ_ _ _ _ _ st h=>LP st.zg.choose_spec.choose_spec.1 h
variable{qs:List P}
theorem zip_get{ps:List P}{i:Nat}{p q:P}(h:ps[i]? =some p)(h':qs[i]? =some q):(MP ps qs)[i]? =some (.tup [p,q]):=by
 unfold MP;rw[List.getElem?_map,List.getElem?_zip_eq_some (z:=(p,q)) |>.mpr #[h,h']];rfl
theorem NU{ps:List P}:Walk W (dJ W.K a b) (MP ps qs) (λH=>A5 W H (.tup ps) (.ref a)/\A5 W H (.tup qs) (.ref b)) where
 go:=λi H h hi=>by
   rintro⟨l,vs,e,h1,h2⟩:A9.mp h.1;cases e;rintro⟨j,ws,e,d,c⟩:A9.mp h.2;cases e;have hi:i < ps.length/\i < qs.length:=by simpa[MP,Nat.lt_min]using hi
   rintro⟨v,g,_⟩:Pd.get h2 (List.getElem?_eq_getElem hi.1);rintro⟨w,f,_⟩:Pd.get c (List.getElem?_eq_getElem hi.2);exact#[vs,ws,v,w,h1,d,g,f]
 LS:=λi H x H' h hi m=>by
  rintro⟨l,vs,e,h1,h2⟩:A9.mp h.1;cases e;rintro⟨j,ws,e,d,c⟩:A9.mp h.2;cases e;rintro⟨p,u,v,rfl,r,rfl,q,n⟩:m;rintro⟨z,g,f⟩:Pd.Hg h2 (q vs h1);rintro⟨A,y,t⟩:Pd.Hg c (n ws d);have sm:=Ar (o:=.tup [u,v]) r;exact#[sm,_,zip_get g y,A9.mpr #[p,_,rfl,D2.of A6,.cons (f.mono (AH.of sm)) (.cons (t.mono (AH.of sm)) .nil)]]
 stop:=λH h=>by
  rintro⟨l,vs,e,h1,h2⟩:A9.mp h.1;cases e;rintro⟨j,ws,e,d,c⟩:A9.mp h.2;cases e;refine#[vs,ws,h1,d,?_];have:=Paired.length h2;have:=Paired.length c;simp[MP]
  lia
theorem Xj:bootBuiltins "zip"=some (.type "zip"):=by decide +kernel
def Wo(r:V->V->Hp->Prop):List V->Hp->Prop
 |[v,w],H=>r v w H
 |_,_=>False
theorem Mg{r:V->V->Hp->Prop}{vs:List V}(h:Wo r vs H):∃v w,vs=[v,w]/\r v w H:=by
 match vs,h with
 |[v,w],h=>exact#[v,w,rfl,h]
theorem W4(L:Bb ct X W cf k){pos:Pos}{tg:Expr}{ta tb:TE}(C:Cb tg=true)(E:ct.own x=true)(B:x="zip")(st:A7 a=true)(d:A7 b=true)(F:PE X a ta)(c:PE X b tb):PI X tg (.Call (.Name x p) [a,b] [] pos) (Yd W Jh ta tb):=by
 subst B;rintro⟨g1,g2,g3,U⟩:L.EV E;intro p0 s Y H R I h;refine Call_ (CJ I g1 g2 Xj (PyProof.Rows.callWith_type1 (AS ((AB F (AB c Bv (A2 d [] _)) (A2 st [_] _)) pos p0 s Y H (Wo λu v H2=>∃x y xs,A5 W H2 x u/\A5 W H2 y v/\Jh (.p (.tup [x,y]))=some xs/\∀J,Walk W J xs (λH=>A5 W H x u/\A5 W H y v)->R J H2) I h) λus s1 ⟨vs,H1,f,m,o⟩=>?_) (A2 st [_] _) (by rw[A2 d [] _];rfl)));rintro⟨u,v,rfl,S,py,zs,h1,h2,e,q⟩:Mg o;rintro⟨Q,e1,e⟩:Ab e;cases e1;rintro⟨xs,e2,e⟩:Ab e;rintro⟨ys,G,rfl⟩:AU e;cases P.Bs e2;cases P.Bs G;rintro⟨l1,vs,rfl,k1,k2⟩:A9.mp h1;rintro⟨l2,ws,rfl,j,T⟩:A9.mp h2;have w:=NU (W:=W) (ps:=xs) (qs:=ys) (a:=l1) (b:=l2);rw[L.K]at w k1 j;rintro⟨its,O,t,hz⟩:f.tuple k1;rintro⟨z,l,i,A⟩:f.tuple j;cases m with
 |cons r g=>
   cases g with
   |cons r' g=>
   cases g;cases r;cases r';cases tg with
   |Tuple es n N=>
     refine Tx t i λh' zs D hsz kp=>LP (s:={s1 with heap:=h'}) zs.zg.choose_spec.choose_spec.1 ?_
     have M:Inv X p0 Y H1 {s1 with heap:=h'}:=f.kept (t':=s1.toks) kp;refine#[_,_,_,_,H1,rfl,M,NY D,#[zs.zg,zs.ti,zs.to,zs.dk,zs.dj],λb c=>?_,q _ w]
     have c:s1.heap.objs.size<=b:=by
      simp only[mem_cons,not_mem_nil,or_false]at c;rcases c with h|h|h|h|h<;>rw[h]<;>lia
     exact f.Lq c (f.Aj.fresh c)
   |_=>cases C
end
section
variable{X:Cx}{W:Wd}{ct:Ct}{cf:CF}{k:Nat}
theorem Zc(hK:W.K=X.K):BG X (binaryOp .Mult) (AV W mulC):=by
 refine EW Wj λi j k H Q e q=>?_
 rintro⟨h,rfl⟩:A3 e;exact#[i,j,rfl,rfl,h,q]
theorem We(L:Bb ct X W cf k)(op:Operator)(g:C->C->Option C)(h:bM op=some g):BG X (binaryOp op) (AV W g):=by
 cases op with
 |Add=>cases h;exact Zf L.K
 |Sub=>cases h;exact Z9
 |Mult=>cases h;exact Zc L.K
 |Mod=>cases h;exact Zd
 |FloorDiv=>cases h;exact Wt
 |Pow=>cases h;exact Za
 |_=>cases h
def eA(n:Nat):String:=if n=0 then "NoneType" else if n=1 then "bool" else if n=2 then "int" else if n=3 then "str" else if n=4 then "tuple" else if n=7 then "list" else "dict"
def V7:Ty->String
 |.int=>"int"| .bool=>"bool"| .str=>"str"| .tuple=>"tuple"| .list=>"list"
theorem Dw(K:Frag)(n:Nat)(t:Ty)(h:n=0\/n=1\/n=2\/n=3\/n=4\/n=7\/n=8):kitOne K (.type (eA n)) (.type (V7 t))=some (t.has n):=by
 rcases h with rfl|rfl|rfl|rfl|rfl|rfl|rfl<;>cases t<;>kernel_rfl
variable{p0:Oa}{s:Shared}{H:Hp}
theorem Ym(hK:W.K=X.K){Y:L2.St}{b:Bool}{Q:Va}(I:∅)(d:RelV x v)(h1:Dk W H c x)(e:FN t c=some (bC b))(q:∀tk,Q (.bool b) {s with toks:=tk}):
 (X|||(call (.builtin "isinstance") [v,.type (V7 t)])) Q X.xe s:=by
 have h:∀z,(Value.type (V7 t))=z->True:=λ_ _=>trivial
 unfold FN at e;split at e
 .cases e
 rename_i f;have g:t.has c.ty=b:=by injection e with e;injection e with e;injection e
 rw[<-g]at q;cases c with
 |obj _ _=>exact absurd (.inr rfl) f
 |lst o ps=>
   rintro⟨a,vs,rfl,k1,k2⟩:Bn rfl h1;cases d;rintro⟨its,_,⟨o,n,e,c,_⟩,_⟩:I.list (.inl k1);exact kia_one kitx_list I.GC #[o,e,c] (Dw X.K 7 t (by simp)) (λz=>by cases t<;>cases z) q
 |Bl o kvs=>
   rintro⟨a,es,ep,rfl,hd,_⟩:Gp hK I rfl h1;cases d;exact kia_one PySem.W.kitx_dict I.GC hd.typ (Dw X.K 8 t (by simp)) (λz=>by cases t<;>cases z) q
 |p p=>
   cases p with
   |fn _ _=>exact absurd (.inl rfl) f
   |AG=>cases Gn h1;cases d;exact kia_one PySem.W.kitx_none I.GC True.intro (Dw X.K 0 t (by simp)) (λz=>by cases t<;>cases z) q
   |bl _=>cases Ei h1;cases d;exact kia_one PySem.W.kitx_bool I.GC True.intro (Dw X.K 1 t (by simp)) (λz=>by cases t<;>cases z) q
   |int _=>cases AZ h1;rintro⟨tk,rfl⟩:d;exact kia_one PySem.W.kitx_int I.GC True.intro (Dw X.K 2 t (by simp)) (λz=>by cases t<;>cases z) q
   |str _=>cases BI h1;rintro⟨tk,rfl⟩:d;exact kia_one PySem.W.kitx_str I.GC True.intro (Dw X.K 3 t (by simp)) (λz=>by cases t<;>cases z) q
   |tup ps=>
     rintro⟨a,vs,rfl,k1,k2⟩:CH h1;cases d;rintro⟨its,_,⟨o,e,c,_⟩,_⟩:I.tuple (hK▸k1);exact kia_one PySem.W.kitx_tuple I.GC #[o,e,c] (Dw X.K 4 t (by simp)) (λz=>by cases t<;>cases z) q
   |box n ps=>
     rintro⟨a,vs,rfl,k1,k2⟩:CN.mp (GY h1);cases d;rintro⟨rfl,o,k1⟩:k1;rintro⟨its,_,⟨o,n,e,c,_⟩,_⟩:I.list (.inl (.inr #[o,k1]));exact kia_one kitx_list I.GC #[o,e,c] (Dw X.K 7 t (by simp)) (λz=>by cases t<;>cases z) q
def bh(T:V)(r:V->Hp->VK->Prop):List V->Hp->VK->Prop
 |[v,w],H,Q=>w=T/\r v H Q
 |_,_,_=>False
theorem ZP(hK:W.K=X.K)(t:Ty):Di X (.builtin "isinstance") (bh (.ty (V7 t)) (BZ W (FN t))):=by
 intro p0 s Y H xs us Q I r h;cases r with
 |nil=>exact h.elim
 |cons g f=>
   cases f with
   |nil=>exact h.elim
   |cons d a=>
     cases a with
     |cons _ _=>exact h.elim
     |nil=>
       rintro⟨rfl,i,c,h1,e,q⟩:h;cases d
       obtain⟨b,rfl⟩:∃b,c=bC b:=by
        unfold FN at e;split at e
        .cases e
        .exact#[_,(Option.some.inj e).symm]
       exact Ym hK I g h1 e λtk=>#[.bl b,H,I.tok tk,rfl,q.bl]
theorem Rf{t:Ty}(h:tyName y=some t):bootBuiltins y=some (.type (V7 t)):=by
 unfold tyName at h;split at h
 .rename_i e;subst e;cases h;exact Xp
 split at h
 .rename_i e;subst e;cases h;exact TC
 split at h
 .rename_i e;subst e;cases h;exact Xk
 split at h
 .rename_i e;subst e;cases h;exact Kk
 .obtain⟨rfl,rfl⟩:=A3 h;exact J9
variable{pos:Pos}
theorem W9(L:Bb ct X W cf k){g:C->Option C}{te:TE}(l:ct.own x=true)(j:x="isinstance")(a:SS ct (.Name y q)=some g)(b:A7 e=true)(he:PE X e te):PE X (.Call (.Name x p) [e,.Name y q] [] pos) (λY H Q=>te Y H λv H1=>BZ W g v H1 Q):=by
 subst j;rintro⟨g1,g2,g3,m⟩:L.EV l;rintro⟨u,n,a⟩:Ab a;cases n;split at a
 case isFalse=>cases a
 rename_i i;rintro⟨t,o,rfl⟩:AU a;rintro⟨h,f,d,c⟩:L.EV i;refine Ai (Dr (ZP L.K t) g1 g2 Xo (AB (Cj he) (AB (S7 (pos:=q) h f (Rf o) (show RelV (.ty (V7 t)) (Value.type (V7 t))from rfl) c d) Bv (A2 rfl [] _)) (A2 b [_] _)) m g3 (A2 b [_] _) rfl) λY H Q z=>#[_,z,λv H1 r=>?_]
 exact#[rfl,r]
theorem MR{n:Int}{g:Hp->Prop}:Walk W (aE m (n - m).toNat) (Az m n) g where
 go:=λi H _ hi=>by
   show i < (n-m).toNat;simpa[Az]using hi
 LS:=λi H x H' _ hi a=>by
  rintro⟨rfl,rfl⟩:a;refine#[Dd.refl _,_,?_,Aa.mpr rfl];have hi:i < (n-m).toNat:=by simpa[Az]using hi
  simp[Az,hi]
 stop:=λH _=>by
  show(n-m).toNat<=_;simp[Az]
variable{ta tb:TE}
theorem S9(L:Bb ct X W cf k){tg:Expr}(j:ct.own x=true)(i:x="range")(st:A7 a=true)(c:A7 b=true)(w:PE X a ta)(o:PE X b tb):PI X tg (.Call (.Name x p) [a,b] [] pos) (Yd W KL ta tb):=by
 subst i;rintro⟨g1,g2,g3,D⟩:L.EV j;intro p0 s Y H R I h;refine Call_ (CJ I g1 g2 boot_range (PyProof.Rows.callWith_type1 (AS ((AB w (AB o Bv (A2 c [] _)) (A2 st [_] _)) pos p0 s Y H (Wo λu v H2=>∃x y xs,A5 W H2 x u/\A5 W H2 y v/\KL (.p (.tup [x,y]))=some xs/\∀J,Walk W J xs (λH=>A5 W H x u/\A5 W H y v)->R J H2) I h) λus s1 ⟨vs,H1,A,f,g⟩=>?_) (A2 st [_] _) (by rw[A2 c [] _];rfl)));rintro⟨u,v,rfl,C,py,zs,h1,h2,e,q⟩:Mg g;rintro⟨B,e1,e⟩:Ab e;cases e1;rintro⟨m,e2,e⟩:Ab e;rintro⟨n,z,e⟩:Ab e;rintro⟨l,rfl⟩:A3 e;cases P.AW e2;cases P.AW z;cases Aa.mp h1;cases Aa.mp h2;cases f with
 |cons r d=>
   cases d with
   |cons r' d=>
     cases d;rintro⟨t,rfl⟩:r;rintro⟨t',rfl⟩:r';exact call_range_2 (JE A (by lia) (by lia) (by lia) (by lia) (q _ MR))
theorem Xn:bootBuiltins "max"=some (.builtin "max"):=by decide +kernel
theorem Xm:bootBuiltins "min"=some (.builtin "min"):=by decide +kernel
theorem Wa(L:Bb ct X W cf k){g:Int->Int->Option Int}(t:ct.own x=true)(u:(x="max"/\g=Pl)\/(x="min"/\g=Ph))(sa:A7 a=true)(d:A7 b=true)(m:PE X a ta)(l:PE X b tb):PE X (.Call (.Name x p) [a,b] [] pos) (Vi (AV W (Aw g)) ta tb):=by
 rintro⟨g1,g2,g3,n⟩:L.EV t
 have key:∀{H:Hp} {x y:V} {g:Int->Int->Option Int} {f:Int->Int->Int} {Q:VK},(∀i j,g i j=some (f i j))->AV W (Aw g) x y H Q->∃i j,[x,y]=[.int i,.int j]/\Q (.int (f i j)) H:=λ{H x y g f Q} hf ⟨E,D,c,h1,h2,e,q⟩=>by
  rintro⟨i,B,e⟩:Ab e;rintro⟨j,A,e⟩:Ab e;rintro⟨r,o,rfl⟩:AU e;rw[hf]at o;cases o;cases C.AW B;cases C.AW A;cases AZ h1;cases AZ h2;exact#[i,j,rfl,q.int]
 rcases u with⟨rfl,rfl⟩|⟨rfl,rfl⟩
 .exact Ai (Dr (NJ L.calm) g1 g2 Xn (AB (Cj m) (AB (Cj l) Bv (A2 d [] _)) (A2 sa [_] _)) n g3 (A2 sa [_] _) (by rw[A2 d [] _];rfl)) λY H Q z=>#[_,z,λv H1 r=>#[_,r,λw H2 h=>key (λ_ _=>rfl) h]]
 .exact Ai (Dr (NI L.calm) g1 g2 Xm (AB (Cj m) (AB (Cj l) Bv (A2 d [] _)) (A2 sa [_] _)) n g3 (A2 sa [_] _) (by rw[A2 d [] _];rfl)) λY H Q z=>#[_,z,λv H1 r=>#[_,r,λw H2 h=>key (λ_ _=>rfl) h]]
theorem Fz(L:Bb ct X W cf k){Y:L2.St}{kvs:List (P×P)}{es:List DictEntry}{ep:Nat}{A:Around}{E:Va}{Q:Bool->Shared->Prop}(j:A.units + 150 < cLine)(I:∅)(hd:Ci s.heap a es ep)(ok:DE W H a kvs es)(e:Bk kvs p=true)(d:A5 W H p y)(c:RelV y u)(h:∀tk,Q (CT kvs p).isSome {s with toks:=tk}):
 wpAny (model X.prog X.w) A (contains (.ref a) u) Q E s:=by
 have ty:=hd.typ;refine wpAny_contains_slot ty slot_dict_contains (wpAny_call_entry slot_dict_contains ty entry_dict_contains ?_ (args_dict_contains _ _));show wpAny _ _ (dictGet a u >>= _) _ _ s;rw[<-L.w];refine wB (GS (by rw[L.w];exact I.Aj) (by rw[L.K];exact I.GC) (by first|lia|(rw[in1_units];lia)) hd ok e d c (λz tk=>?_) λi f z hz _ g tk=>?_)
 .refine xN (by decide) ?_;unfold Builtin.Dict.pendingKey?;rw[ok.sm];refine wB ?_;refine xN (by decide) (wpAny_pure (wpAny_pure #[_,rfl,?_]));have:=h tk;rw[z]at this;rw[L.w];exact wpAny_truthy_bool this
 .refine wpAny_ite_split (λ_=>wpAny_pure #[_,rfl,?_]) (λb=>absurd rfl b);have:=h tk;rw[hz]at this;rw[L.w];exact wpAny_truthy_bool this
theorem T5(L:Bb ct X W cf k){Y:L2.St}{t:Bool}{Q:VK}(I:∅)(b:RelV x v)(d:RelV y u)(h1:Dk W H g x)(h2:Dk W H f y)(e:inD g f=some t):
 (Q (.bl t) H->(X|||(compareOp .In v u)) (EP X p0 Y Q) X.xe s)/\(Q (.bl (!t)) H->(X|||(compareOp .NotIn v u)) (EP X p0 Y Q) X.xe s):=by
 rintro⟨p,e1,e⟩:Ab e;rintro⟨kvs,e2,e⟩:Ab e;rintro⟨c,rfl⟩:A3 e;cases C.BO e1;rintro⟨a,es,ep,rfl,hd,ok⟩:Gp L.K I e2 h2;cases d;have h:=L.un;refine#[λq=>?_,λq=>?_]
 .show wpAny _ _ (contains (.ref a) v >>= _) _ _ s;exact wB (Fz L (by lia) I hd ok c (GY h1) b λtk=>wpAny_pure #[.bl _,H,I.tok tk,rfl,q])
 .show wpAny _ _ (contains (.ref a) v >>= _) _ _ s;exact wB (Fz L (by lia) I hd ok c (GY h1) b λtk=>wpAny_pure #[.bl _,H,I.tok tk,rfl,q])
theorem Mr(L:Bb ct X W cf k){Y:L2.St}{t:Bool}{Q:VK}(I:∅)(b:RelV x v)(a:RelV y u)(h1:Dk W H d x)(h2:Dk W H c y)(e:IP d c=some t):
 (Q (.bl t) H->(X|||(compareOp .In v u)) (EP X p0 Y Q) X.xe s)/\(Q (.bl (!t)) H->(X|||(compareOp .NotIn v u)) (EP X p0 Y Q) X.xe s):=by
 rcases or_some e with e|e
 .exact X2 L.K I b a h1 h2 e
 .exact T5 L I b a h1 h2 e
theorem bw(L:Bb ct X W cf k):BG X (compareOp .In) (AV W Nu):=by
 rintro p0 s Y H x y v u Q I b a ⟨g,f,c,h1,h2,e,q⟩
 rintro⟨t,d,rfl⟩:AU e;exact(Mr L I b a h1 h2 d).1 q.bl
theorem Zb(L:Bb ct X W cf k):BG X (compareOp .NotIn) (AV W JP):=by
 rintro p0 s Y H x y v u Q I b a ⟨g,f,c,h1,h2,e,q⟩
 rintro⟨t,d,rfl⟩:AU e;exact(Mr L I b a h1 h2 d).2 q.bl
theorem Sb(L:Bb ct X W cf k)(op:CmpOp):BG X (compareOp op) (AV W (Nn op)):=by
 cases op with
 |Eq=>exact bB L.K L.w L.un
 |NotEq=>exact bq L.K L.w L.un
 |Lt=>exact br
 |LtE=>exact bt
 |Gt=>exact bx
 |GtE=>exact bz
 |Is=>exact bu
 |IsNot=>exact Ze
 |In=>exact bw L
 |NotIn=>exact Zb L
theorem IB(L:Bb ct X W cf k):TX ct X W:=
 #[We L,Sb L,Yh,Zw L.K,YG L.K,Wb L,W6 L,W9 L,Sa,W8 L,W5 L,Wa L,S8 L,W7 L,Wc L,W4 L,S9 L]
end
section
variable{W:Wd}{cf:CF}{k:Nat}{ct:Ct}{X:Cx}
variable{H:Hp}
theorem M1{α β:Type}{rep:Rp α β}{F:Env->Res α}{Y:L2.St}{Q Q':β->Hp->Prop}(h:tG W rep F Y H Q)(k:∀b H',Ext H H'->Q b H'->Q' b H'):tG W rep F Y H Q':=by
 rintro⟨U,B,R,z⟩:h;refine#[U,B,R,?_];cases e:F U with
 |stuck=>rw[e]at z;exact z
 |ok a=>rw[e]at z;exact λb H' e1 t1 c=>k b H' e1 (z b H' e1 t1 c)
def Uo(W:Wd):QN:=λo i v H Q=>∃a es kvs k x,o= .ref a/\H a=some (DX a es)/\DE W H a kvs es/\Bk kvs k=true/\A5 W H k i/\A5 W H x v/\kvs.length < big/\∀es',DE W (upd H a (DX a es')) a (dput kvs k x) es'->Q (upd H a (DX a es'))
theorem RI(L:Bb ct X W cf k):TV X (Uo W):=by
 intro p0 s Y H o i v n p u Q I d f c ⟨a,es,kvs,k,x,e,h1,h2,l,j,h,g,q⟩;subst e;cases d;exact GR L.K (by have:=L.un;lia) L.w I h1 h2 l j h g f c λb s' ok m=>#[_,m,q b ok]
theorem Xc{own bor:Addr->Prop}{es c:List DictEntry}{kvs:List (P×P)}{fs:List Fd}{vs:List V}{n:Nat}(h:Paired (Dl W H own bor true) fs vs)(hd:U0 fs vs)(y:H a=some (DX a es))(w:own a)(o:vs[n]? =some (.ref a))(hf:∃f,fs[n]? =some (.d f))(ok:DE W (upd H a (DX a c)) a kvs c):
 Paired (Dl W (upd H a (DX a c)) own bor true) (fs.set n (.d kvs)) vs/\U0 (fs.set n (.d kvs)) vs:=by
 have kp:AH H (upd H a (DX a c)):=BR y HB.1 HB.2.1;have u:Dl W (upd H a (DX a c)) own bor true (.d kvs) (.ref a):=#[a,c,rfl,#[A6,w],ok]
 have st:∀{d:Fd} {v:V},Dl W H own bor true d v->(d.XN=true->v≠.ref a)->Dl W (upd H a (DX a c)) own bor true d v:=λ{d v} z s=>by
  cases d with
  |p x=>exact A5.mono kp z
  |d C=>
    rintro⟨b,A,rfl,k1,k2⟩:z;refine#[b,A,rfl,#[?_,k1.2],k2.mono kp];rw[A4 λe=>s rfl (by rw[e])];exact k1.1
 rintro⟨f,hf⟩:hf;clear ok
 induction n generalizing fs vs with
 |zero=>
   cases h with
   |nil=>cases hf
   |cons h1 h2=>
     cases hf;cases o;unfold U0 at hd ⊢;rw[zip_cons_cons,pairwise_cons]at hd;refine#[.cons u ?_,?_]
     .have:∀{fs:List Fd} {vs:List V},Paired (Dl W H own bor true) fs vs->(∀p∈fs.zip vs,p.1.XN=true->p.2≠.ref a)->Paired (Dl W (upd H a (DX a c)) own bor true) fs vs:=λ{fs vs} h=>by
       induction h with
       |nil=>intro _;exact .nil
       |cons h t q=>exact λz=>.cons (st h λi=>z _ mS i) (q λp g=>z p (mem_cons_of_mem _ g))
      exact this h2 λp g i e=>hd.1 p g rfl i e.symm
     .show List.Pairwise _ ((Fd.d kvs,V.ref a)::_);rw[pairwise_cons];exact#[λp g _ i=>hd.1 p g rfl i,hd.2]
 |succ n q=>
   cases h with
   |nil=>cases hf
   |@cons d v fs vs h1 h2=>
     unfold U0 at hd;rw[zip_cons_cons,pairwise_cons]at hd;rintro⟨l,j⟩:q h2 hd.2 o hf
     have hm:(Fd.d f,V.ref a)∈fs.zip vs:=by
      refine mem_of_getElem? (i:=n) ?_;rw[List.getElem?_zip_eq_some];exact#[hf,o]
     refine#[.cons (st h1 λi e=>hd.1 _ hm i rfl e) l,?_];unfold U0 at j ⊢;show List.Pairwise _ ((d,v)::(fs.set n (.d kvs)).zip vs);rw[pairwise_cons];refine#[λp g l j=>?_,j];rintro⟨m,r⟩:mem_iff_getElem?.mp g;rintro⟨e1,e2⟩:List.getElem?_zip_eq_some.mp r;rw[List.getElem?_set]at e1;split at e1
     .rename_i e;subst e;have B:V.ref a=p.2:=Option.some.inj ((show vs[n]? =some (V.ref a)from o).symm.trans e2);rw[<-B];exact λe=>hd.1 _ hm l rfl e
     .exact hd.1 p (mem_of_getElem? (List.getElem?_zip_eq_some.mpr #[e1,e2])) l j
theorem P6{c:C}{fs:List Fd}(h:c.Ws =some fs):c= .obj true fs:=by
 cases c with
 |obj o a=>
   cases o with
   |true=>cases h;rfl
   |false=>cases h
 |_=>cases h
theorem PH{d:Fd}{kvs:List (P×P)}(h:d.WM =some kvs):d= .d kvs:=by cases d<;>cases h;rfl
theorem VB{K:Frag}{i n:Nat}{f:Str}{t u:T}{D:Ends}{Y:L2.St}(E:W.fl.Nodup)(hf:W.fl[n]? =some f)(hc:Kt K W.lc)(na:C5 K W.lc f)(h:tS W [] (Nv.exec cf As (.Ce i false (Dt (Bz n)) [t,u])) D Y H):
 Ju (tG W (rV W) (ev cf t)) (ZF (Vk K (ES i) f) (tG W (rV W) (ev cf u)) (Uo W)) D Y H:=by
 rintro⟨Hin,A0,Bo,U,S,d⟩:h;replace d:Bh W Hin A0 Bo [] D Y (if(!(A8 U i).any λ_=>true)=true then .stuck else(BK cf [t,u] U).fl λcs=>match(A8 U i).bind λc=>(Dt (Bz n)) c cs with|some c'=>.nx (U.set i (some c'))|none=>.stuck):=d;cases m:A8 U i with
 |none=>rw[m]at d;exact d.elim
 |some c=>
   rw[iN (by rw[m];simp)]at d;rintro⟨O,hO⟩:S.env;rintro⟨x,R,q2⟩:hO i c m
   have g:∃cs c',Dt (Bz n) c cs=some c':=by
    cases ea:BK cf [t,u] U with
    |stuck=>rw[ea]at d;exact d.elim
    |ok cs=>
      rw[ea,m]at d;cases ec:Dt (Bz n) c cs with
      |none=>
        replace d:Bh W Hin A0 Bo [] D Y (match Dt (Bz n) c cs with|some c'=>.nx (U.set i (some c'))|none=>.stuck):=d;rw[ec]at d;exact d.elim
      |some c'=>exact#[cs,c',ec]
   rintro⟨cs0,c0',g⟩:g;rintro⟨_,_,_,g⟩:IC g;rintro⟨fs,e1,G⟩:Ab g;cases P6 e1;rintro⟨a,dx,vs,rfl,ha,ho,hp,hd⟩:q2;rintro⟨fd,e2,F⟩:Ab G;rintro⟨Z,e3,_⟩:Ab F;cases PH e3;rintro⟨w,hw,j,es,ew,_⟩:Pd.get hp e2;subst ew;refine M1 (Gg (O6 S d m R)) λv H1 o z=>#[_,R,a,_,dx,_,_,rfl,o.but a _ ha rfl,hc,na,Ie E hf hw,?_]
   refine M1 (Gg z) λQ H2 L z=>?_
   rintro⟨own,bor,c,cs,c',r1,r2,e,q⟩:M0 z;rintro⟨xv,xk,rfl,e⟩:IC e;rintro⟨fs2,f1,e⟩:Ab e;rintro⟨fd,f2,e⟩:Ab e;rintro⟨kvs,f3,e⟩:Ab e;rintro⟨pk,f4,e⟩:Ab e;rintro⟨px,f5,e⟩:Ab e;rintro⟨hk,rfl⟩:A3 e;cases P6 f1;cases PH f3;cases C.BO f4;cases C.BO f5;rintro⟨z1,z2,ez,A,y⟩:OC r2;cases ez;rintro⟨a2,P,s,g1,g2,g3,g4,g5⟩:r1;cases g1;have I:H2 a=some (.ins W.lc dx (W.fl.zip vs)):=L.but a _ (o.but a _ ha rfl) rfl;rw[I]at g2;rintro⟨Q,l,b,p,M,dd,ok⟩:Pd.get g4 f2
   have:Q=V.ref j:=by
    have l1:=Ie E hf hw;have l2:=Ie E hf l;injection g2 with g2
    injection g2 with _ g2 J
    rw[J,l2]at l1;exact Option.some.inj l1
   subst this;cases M;refine#[j,p,kvs,pk,px,rfl,dd.1,ok,hk.1,GY y,GY A,hk.2,λN B=>?_];rintro⟨y1,y2⟩:Xc g4 g5 dd.1 dd.2 l #[_,f2] B;refine q j _ (DX j N) .AG dd.2 dd.1 HB #[a,P,s,rfl,?_,g3,y1,y2];have r:H2 j=some (DX j p):=dd.1;rw[A4 λe=>by rw[<-e,I]at r;exact HO.noConfusion (Option.some.inj r)];rw[I,g2]
variable{j:Nat}{pos:Pos}
theorem Of(L:Bb ct X W cf k){n:Nat}{a:Expr}(hs:ct.slot y=some j)(hf:ct.fld.idxOf? f=some n)(hi:IL a=false)(he:AR X W cf e t)(d:AR X W cf a u):PS X (.Assign [.Subscript (.Attribute (.Name y p) f r) a q] e pos) (rS W cf (.Ce j false (Dt (Bz n)) [t,u])):=by
 have c:swapsWithSole [.Subscript (.Attribute (.Name y p) f r) a q] e pos.line X.env=pure false:=by
  show swapsWith e (some (.Subscript (.Attribute (.Name y p) f r) a q)) pos.line X.env=pure false;cases e<;>rfl
 have b:swappedStores [.Subscript (.Attribute (.Name y p) f r) a q] e X.env=pure none:=by cases e<;>rfl
 rintro⟨f1,f2,h,f4⟩:L.fld;have g:=Cp hf;refine C0 (KO he.v (OQ (OW (L.pv hs) rfl) d.v (RI L) ?_) c b rfl) λD Y H z=>VB (f1▸f2) (f1▸g) L.UA (f4 f (mem_of_getElem? g)) z
 intro v;cases a<;>first|rfl|cases hi
theorem Oe(L:Bb ct X W cf k){n:Nat}(hs:ct.slot y=some j)(hf:ct.fld.idxOf? f=some n)(he:AR X W cf e t):PS X (.Assign [.Attribute (.Name y p) f q] e pos) (rS W cf (.Ce j false (EL (FI n)) [t])):=by
 rintro⟨f1,f2,b,f4⟩:L.fld;have a:=Cp hf;refine C0 (VR (L.pv hs) (OV he.v) ?_) λD Y H z=>Vy (f1▸f2) (f1▸b) (f1▸a) L.UA (f4 f (mem_of_getElem? a)) z
 cases e<;>rfl
theorem Vq(L:Bb ct X W cf k){t:S}(i:BF e=false)(h:Zv ct e=some t):PS X (.Expr e pos) (rS W cf t):=by
 rintro⟨q,h1,h⟩:Ab h;rintro⟨f,h2,h⟩:Ab h;rintro⟨ts,g,rfl⟩:AU h;rintro⟨x,p,ap,cp,rfl,hm,hs⟩:IF h1;rintro⟨d,a,c,b⟩:L.NR _ _ h2;exact C0 (El (Us L.UA c b (L.room.mono (Nat.le_succ _)) hm (L.pv hs) (E5 (λe _=>F4 IB (sizeOf e) e (Nat.le_refl _)) L g))) λD Y H z=>RK d z
theorem Vo(L:Bb ct X W cf k):dD ct X W cf k:=
 #[Rn L,Og L,λ_ h=>Vp IB L h,Ro (i:=0) L,Of L,Oe L,Vq L]
theorem Kl{ss:List Stmt}{ts:List S}(L:Bb ct X W cf k)(h:SO ct ss=some ts):NO X ss (de W cf ts):=
 Mb (λs _=>WS IB Vo (sizeOf s) s (Nat.le_refl _)) L h
end
section
variable{P:Program}{w:World}{K:Frag}{mg:Str->Option Value}
structure Top(c c':Ct):Prop where
 fns:c.fns=c'.fns
 NS:c.NS=c'.NS
 NR:c.NR=c'.NR
 cls:c.cls=c'.cls
 fld:c.fld=c'.fld
 gl:c.gl=c'.gl
 lt:c.lt=c'.lt
theorem Top.lam{c c':Ct}(h:Top c c')(as:Arguments)(sc:Scope):c.lam as sc=c'.lam as sc:=by
 rintro⟨N,s,f,l,k,cl,fl,g,d,lm,lt⟩:c;rintro⟨n,s',m,b,a,j,i,g',d',e,lt'⟩:c';rintro⟨rfl,rfl,rfl,rfl,rfl,rfl,rfl⟩:h;rfl
def Hd(fns:List LN)(n:Nat):Bool:=(fns[n]?).any LN.mu
structure cE(K:Frag)(mg:Str->Option Value)(W:Wd)(nd:Nat)(fad:Nat->Addr)(FL:List LN)(ct:Ct):Prop where
 kk:W.K=K
 fa:∀n c a,W.fa n c a↔(n < nd/\Hd FL n=false/\c=[]/\a=fad n)
 gl:∀x c,ct.gl.lookup x=some c->∃u v,mg x=some u/\RelV v u/\∀W':Wd,TU W W'->∀H own bor,AF W' H own bor c.bor v
 own:∀x∈Ja,ct.gl.lookup x=none->ct.fns.lookup x=none->ct.cls.lookup x=none->mg x=none
 fns:∀x f,ct.fns.lookup x=some f->mg x=some (.ref (fad f))/\f < nd/\Hd FL f=false
 UA:Kt K W.lc
 fld:W.fl=ct.fld/\ct.fld.Nodup/\ct.fld.length < 1000/\∀f∈ct.fld,C5 K W.lc f
 NS:∀m f,ct.NS.lookup m=some f->m∉W.fl/\Meth K W.lc m (fad f)/\f < nd/\Hd FL f=false
 NR:∀m f,ct.NR.lookup m=some f->m∉W.fl/\Meth K W.lc m (fad f)/\f < nd/\Hd FL f=true
 cls:∀x f,ct.cls.lookup x=some f->mg x=some (.ref W.lc)/\Mk K W.lc (fad f)/\f < nd/\Hd FL f=true
structure MN(K:Frag)(W:Wd)(c0:Ct)(a:Addr)(fi:LN)(fd:FuncData)(ps:List Str):Prop where
 ex:∃(x qual:Str) (st:Stmt) (ct:Ct),TY K x qual st a fd/\EI ct.N ps (Bp st)/\SO ct (DN st)=some fi.body/\fi.np=ps.length/\fi.nl=ct.N.length/\ct.sc=Bp st/\ct.df=true/\Top ct c0/\Binds K fd ps []/\
   ∀lp l,ct.Lc.lookup lp=some l->∃c P,fd.code= .ref c/\codeHdIn K c P=true/\(P,lp,(qual++".<locals>.")++"<lambda>")∈W.tabs
structure Good(K:Frag)(mg:Str->Option Value)(c0:Ct)(W0 W:Wd)(base:Heap):Prop where
 st:TU W0 W
 By:K.In base
 fa:∀n c a,W.fa n c a->W0.fa n c a\/EJ c0 (λl n t=>c0.lt l n t=true) W base n c a
 blt:∀q∈W0.tabs,base.BuiltinsAt mg q.1/\mainGlobals≠q.1
theorem QB{h h':Heap}{P:Addr}(k:∀b o,h.get? b=some o->h'.get? b=some o)(x:h.BuiltinsAt mg P):h'.BuiltinsAt mg P:=
 let⟨bm,o,g,f,e,d,c,a⟩:=x;#[bm,o,g,f,e,d,k _ _ c,a]
variable{base:Heap}
theorem TY.eS{qual:Str}{st:Stmt}{fd:FuncData}{N ps:List Str}{k:Nat}{sp:Sp}(F:TY K x qual st f fd)(S:EI N ps (Bp st))(len:∀vs H Q E,sp vs H Q E->vs.length=ps.length)
 (a:∀(A:Around) (outer:List PySem.Env) (s:Shared) (H:Hp) (vs:List V) (Q:VK) (E:XK),BU k (A.deeper (envOfC qual (Bp st) s.heap.objs.size f fd.code))->sp vs H Q E->
  ∃t,NO (LG MO P w K mg base N qual (Bp st) f fd.code A outer s H E) (DN st) t/\t {nx:=λ_ H'=>Q .AG H',rt:=Q} (start N vs) H):GX P w K mg base MO (k+1) f fd ps sp:=by
 rintro⟨oc,e,kV,doc,pm,an,d,ct,c,rfl,lk,b⟩:F.ex;exact Qa lk b S len a
variable{LT:Nat->Nat->T->Prop}{W:Wd}{caps:List Nv.P}
theorem EJ.top{c c':Ct}(h:Top c c'){l:Nat}(x:EJ c LT W base l caps a):EJ c' LT W base l caps a:=by
 rintro⟨qual,y,fr,as,b,sc,clos,pm,d,cc,t,is,r⟩:x;rw[h.lam as sc]at r;exact#[qual,y,fr,as,b,sc,clos,pm,d,cc,t,is,r]
variable{H:Hp}
theorem VM{cf:CF}{n:Nat}{vs:List V}{Q:VK}{E:XK}(b:vs.length=n)(h:QU W (Cu cf As #[n,n,false,[.ret t]]) vs H Q E):tG W (rV W) (ev cf t) (vs.map some) H Q:=by
 have z:=ME (E:=E) (N:=List.replicate n #[[].toArray]) (fi:=#[n,n,false,[.ret t]]) (by simp) b h;have e:L2.start (List.replicate n #[[].toArray]) vs=vs.map some:=by unfold L2.start;rw[List.length_replicate,b,Nat.sub_self,List.replicate_zero,append_nil]
 rw[e]at z
 have f:tS W [] (λU=>(ev cf t U).fl λc=>if c.own then .ret c else .stuck) {nx:=λ_ H'=>Q .AG H',rt:=Q} (vs.map some) H:=by
  rintro⟨Hin,A0,Bo,U,S,a⟩:z;refine#[Hin,A0,Bo,U,S,?_];replace a:Bh W Hin A0 Bo [] {nx:=λ_ H'=>Q .AG H',rt:=Q} (vs.map some) (((ev cf t U).fl λc=>if c.own then .ret c else .stuck).then λU=>.nx U):=a;show Bh W Hin A0 Bo [] {nx:=λ_ H'=>Q .AG H',rt:=Q} (vs.map some) ((ev cf t U).fl λc=>if c.own then .ret c else .stuck);generalize ev cf t U=r at a ⊢;cases r with
  |stuck=>exact a
  |ok c=>
    cases d:c.own with
    |true=>simp only[Res.fl,d]at a ⊢;exact a
    |false=>simp only[Res.fl,d]at a ⊢;exact a
 exact Uj f
theorem Hv{own:Nat->Addr->Prop}{bor:Addr->Prop}(is:List Int):∀{j:Nat} {cs:List C} {vs:List V},BB W H own bor j cs vs->BB W H own bor j (cs++(is.map Nv.P.int).map C.p) (vs++is.map V.int)
 | j,[],vs,h=>by
   have h:vs=[]:=h;subst h
   induction is generalizing j with
   |nil=>rfl
   |cons i is a=>exact#[.int i,is.map V.int,rfl,(show A5 W H (.int i) (.int i)from Aa.mpr rfl),a (j+1) rfl]
 |j,_::_,_,⟨v,r,q,h1,h2⟩=>by subst q;exact#[v,_,rfl,h1,Hv is h2]
theorem HR{a:Heap}(k:∀b o,base.get? b=some o->a.get? b=some o)(h:base.IsCell c (some u)):a.IsCell c (some u):=let⟨o,d,hd⟩:=h;#[o,k _ _ d,hd]
variable{W':Wd}
theorem EJ.mono{c:Ct}{d:Heap}{l:Nat}(hw:∀q∈W.NG,q∈W'.NG)(k:∀b o,base.get? b=some o->d.get? b=some o)(x:EJ c LT W base l caps a):EJ c LT W' d l caps a:=by
 rintro⟨qual,y,fr,as,b,sc,clos,pm,h,cc,t,is,h1,h2,D,C,B,A,v,s,r,g,f⟩:x;exact#[qual,y,fr,as,b,sc,clos,pm,h,cc,t,is,k _ _ h1,hw _ h2,D,C,B,λx c e=>let⟨u,z⟩:=A x c e;#[u,HR k z],v,s,λi x n e1 e2=>let⟨c,u,p,m,j⟩:=r i x n e1 e2;#[c,u,p,HR k m,j],g,f]
theorem TU.trans{e:Wd}(a:TU W W')(b:TU W' e):TU W e:=#[a.K.trans b.K,a.w.trans b.w,a.lc.trans b.lc,a.fl.trans b.fl,a.tabs.trans b.tabs,λq h=>b.NG q (a.NG q h),λn c d h=>b.fa n c d (a.fa n c d h)]
structure cB(P:Program)(w:World)(K:Frag)(mg:Str->Option Value)(fns:List LN)(nd:Nat)(fad:Nat->Addr)(k:Nat)(W:Wd)(base:Heap):Prop where
 fv:∀n c a,W.fa n c a->cF P w K mg base W (Be fns As k) (2*k+4) n c a
 fm:∀n,n < nd->Hd fns n=true->QR P w K mg base (Vr W (Be fns As k n)) (2*k+4) (fad n)
section
variable{W0:Wd}{c0:Ct}{fns:List LN}{nd:Nat}{fad:Nat->Addr}{FD:Nat->FuncData}{PS':Nat->List Str}
variable{W:Wd}{base:Heap}
theorem Pu(hw0:W0.w=w)(G:cE K mg W0 nd fad fns c0){k:Nat}(g:Good K mg c0 W0 W base)(h:cB P w K mg fns nd fad k W base){ct:Ct}(b:Top ct c0){X:Cx}(e1:X.prog=P)(e2:X.w=w)(a:X.K=K)(d:X.mg=mg)(p:X.base=base)(o:X.N=ct.N)(j:X.N.Nodup)
 (sc:XW ct.sc X.env.scope)(fn:ct.df=true->∀x,X.fn x=true)(calm:X.calm=true)(room:BU (2*k+4+1) X.A)(po:PassesOwn (model X.prog X.w) X.A X.env X.xe)
 (lam:∀lp l,ct.Lc.lookup lp=some l->Xy X W (Be fns As k) (2*k+4) ct (λl n t=>ct.lt l n t=true) lp):Bb ct X W (Be fns As k) (2*k+4):=by
 subst e1 e2 a d p;have fs:∀i,i < nd->Hd fns i=false->W.fa i [] (fad i):=λi hi hm=>g.st.fa _ _ _ ((G.fa _ _ _).mpr #[hi,hm,rfl,rfl])
 refine#[g.st.K▸G.kk,g.st.w▸hw0,o,j,sc,fn,calm,room,po,?_,?_,?_,g.st.lc▸G.UA,?_,?_,?_,?_,h.fv,lam]
 .rw[b.gl];intro x c e;rintro⟨u,v,e1,e2,a⟩:G.gl x c e;exact#[u,v,e1,e2,a W g.st]
 .rw[b.gl,b.fns,b.cls];exact G.own
 .rw[b.fns];intro x f e;rintro⟨e1,e2,a⟩:G.fns x f e;exact#[fad f,e1,fs f e2 a,h.fv _ _ _ (fs f e2 a)]
 .rw[b.fld,<-g.st.fl,<-g.st.lc];exact G.fld
 .rw[b.NS,<-g.st.fl,<-g.st.lc];intro m f e;rintro⟨e1,e2,a,d⟩:G.NS m f e;exact#[e1,_,e2,h.fv _ _ _ (fs f a d)]
 .rw[b.NR,<-g.st.fl,<-g.st.lc];intro m f e;rintro⟨e1,e2,a,d⟩:G.NR m f e;exact#[e1,_,e2,h.fm f a d]
 .rw[b.cls,<-g.st.lc];intro m f e;rintro⟨e1,e2,a,d⟩:G.cls m f e;exact#[e1,_,e2,h.fm f a d]
variable (hw0:W0.w=w)(G:cE K mg W0 nd fad fns c0)(hnl:nd<=fns.length)(htn:(W0.tabs.map (·.1)).Nodup)(hlt:∀l n t,c0.lt l n t=true->fns[l]? =some #[n,n,false,[.ret t]])
 (D0:∀f fi,f < nd->fns[f]? =some fi->MN K W0 c0 (fad f) fi (FD f) (PS' f))
include hw0 G hnl htn hlt D0
theorem IU{k:Nat}(j:∀(W:Wd) (base:Heap),Good K mg c0 W0 W base->cB P w K mg fns nd fad k W base)(g:Good K mg c0 W0 W base){n:Nat}(hf:n < nd):
 GX P w K mg base MO (2*(k+1)+4) (fad n) (FD n) (PS' n) (ai W (Hd fns n) (Be fns As (k+1) n))/\(∃o fd,base.get? (fad n)=some o/\o.data= .func fd)/\Binds K (FD n) (PS' n) []:=by
 have V:2*(k+1)+4=(2*k+4+1)+1:=by lia
 have h:=Nat.lt_of_lt_of_le hf hnl;rintro⟨x,qual,st,ct,F,S,U,h1,h2,h3,h4,C,Y,m⟩:(D0 n fns[n] hf (List.getElem?_eq_getElem h)).ex
 have p:Be fns As (k + 1) n=Cu (Be fns As k) As fns[n]:=by
  funext cs
  show(match fns[n]? with|some fi=>Cu (Be fns As k) As fi cs|none=>.stuck)=_;rw[List.getElem?_eq_getElem h]
 have D:Hd fns n=fns[n].mu:=by unfold Hd;rw[List.getElem?_eq_getElem h];rfl
 have len0:∀{vs H Q},aO W (Be fns As (k + 1) n) vs H Q->vs.length=(PS' n).length:=λ{vs H Q} z=>by
  rintro⟨cs,O,A0,Z,_,q⟩:z;have hl:=Z.length
  by_cases u:cs.length=fns[n].np
  .lia
  .rw[p]at q;unfold Cu at q;rw[iN u]at q;exact q.elim
 have len:∀vs H Q E,ai W (Hd fns n) (Be fns As (k + 1) n) vs H Q E->vs.length=(PS' n).length:=λvs H Q E z=>by
  unfold ai at z;split at z
  .exact len0 z
  .exact len0 z
 have B:∃o fd,base.get? (fad n)=some o/\o.data= .func fd:=by
  rintro⟨oc,od,kV,doc,pm,an,cdv,ct,M,e,lk,_⟩:F.ex;exact#[_,_,g.By _ _ lk,rfl]
 rw[V];refine#[TY.eS F S len λA outer s H vs Q E T d=>?_,B,Y];have R:=len vs H Q E d;rw[p,D]at d
 let X:=LG MO P w K mg base ct.N qual (Bp st) (fad n) (FD n).code A outer s H E
 have L:Bb ct X W (Be fns As k) (2 * k + 4):=by
  refine Pu (X:=X) hw0 G g (j W base g) C rfl rfl rfl rfl rfl rfl S.nd (by rw[h3];exact XW.refl _) (λ_ _=>rfl) rfl T PassesOwn.leaving λlp l e=>?_
  rintro⟨c,Pt,e2,e3,I⟩:m lp l e;refine#[#[c,Pt,e2,e3,(g.blt _ I).1,(g.blt _ I).2,g.st.tabs▸I],g.st.tabs▸htn,λW' i t r J f a v=>?_];refine(j W' i #[g.st.trans t,λb o q=>r b o (g.By b o q),λn c a z=>?_,λq hq=>#[QB r (g.blt q hq).1,(g.blt q hq).2]]).fv f [] a (t.fa _ _ _ v);rcases J n c a z with z|z
  .rcases g.fa n c a z with y|y
   .exact .inl y
   .exact .inr (y.mono t.NG r)
  .right;have:=z.top C;rw[C.lt]at this;exact this
 exact#[_,Kl L U,ME h2 (by lia) d]
theorem Q9:∀(k:Nat) (W:Wd) (base:Heap),Good K mg c0 W0 W base->cB P w K mg fns nd fad k W base
 | 0, W,base,g=>by
   have here:∀n,n < nd->∃o fd,base.get? (fad n)=some o/\o.data= .func fd:=λn h1=>by
    have U:=Nat.lt_of_lt_of_le h1 hnl;rintro⟨x,qual,st,ct,F,_⟩:(D0 n fns[n] h1 (List.getElem?_eq_getElem U)).ex;rintro⟨oc,od,kV,doc,pm,an,cdv,ct,osl,_,lk,_⟩:F.ex;exact#[_,_,g.By _ _ lk,rfl]
   refine#[λn c a Z=>#[?_,λA outer s H us vs Q E _ _ _ z=>?_],λn S _=>#[here n S,λA outer s H us vs Q E _ _ _ z=>?_]]
   .rcases g.fa n c a Z with h|h
    .obtain⟨h1,_,rfl,rfl⟩:=(G.fa n c a).mp h;exact here n h1
    .obtain⟨qual,y,fr,as,b,sc,clos,pm,ctv,cc,t,is,h1,_⟩:=h;exact#[_,_,h1,rfl]
   .obtain⟨cs,O,A0,_,_,q⟩:=z;exact q.elim
   .obtain⟨cs,O,A0,_,_,q⟩:=z;exact q.elim
 | k + 1,W,base,g=>by
   have j:=Q9 k;have hj:2*(k+1)+4=(2*k+4+1)+1:=by lia
   refine#[λn c a Z=>?_,λn S hm=>?_]
   rotate_left
   .obtain⟨F,D,J⟩:=IU hw0 G hnl htn hlt D0 j g S;rw[hm]at F;exact UM D F J
   rcases g.fa n c a Z with h|h
   .obtain⟨hf,hm,rfl,rfl⟩:=(G.fa n c a).mp h;rintro⟨F,D,J⟩:IU hw0 G hnl htn hlt D0 j g hf;rw[hm]at F;have:=UM D F J;have e:(λcs=>Be fns As (k+1) n (cs++([]:List Nv.P).map .p))=Be fns As (k+1) n:=funext λcs=>by rw[map_nil,append_nil]
    show QR _ _ _ _ _ (QU W (λcs=>Be fns As (k+1) n (cs++([]:List Nv.P).map .p))) _ _;rw[e];exact this
   .obtain⟨qual,y,fr,as,b,sc,clos,pm,ctv,cc,t,is,J,Y,hS,T,B,r,rfl,hlen,hv,ht,I⟩:=h;refine#[#[_,_,J,rfl],λA outer s H us vs Q E R e0 rv f=>?_];have I:=hlt _ _ _ I
    have ecf:Be fns As (k + 1) n=Cu (Be fns As k) As #[(y::fr).length,(y::fr).length,false,[.ret t]]:=by
     funext cs
     show(match fns[n]? with|some fi=>Cu (Be fns As k) As fi cs|none=>.stuck)=_;rw[I]
    rw[ecf]at f;rintro⟨cs,O,A0,hR,M,d⟩:f;have hl:=hR.length
    have hcl:cs.length=1:=by
     by_cases hc:(cs++(is.map Nv.P.int).map C.p).length=(y::fr).length
     .simp[hlen]at hc;lia
     .exfalso;have e:Cu (Be fns As k) As #[(y::fr).length,(y::fr).length,false,[.ret t]] (cs++(is.map Nv.P.int).map C.p)= .stuck:=by unfold Cu;exact iN hc
      replace d:dE W H A0 (Cu (Be fns As k) As #[(y::fr).length,(y::fr).length,false,[.ret t]] (cs++(is.map Nv.P.int).map C.p)) (λ_ v H'=>Q v H'):=d;rw[e]at d;exact d
    obtain⟨v0,rfl⟩:∃v0,vs=[v0]:=by
     rcases vs with _|⟨v0,_|⟨_,_⟩⟩
     .simp at hl;lia
     .exact#[v0,rfl]
     .simp at hl;lia
    rintro⟨u0,rfl,r0⟩:vals1 rv;have f:QU W (Cu (Be fns As k) As #[(y::fr).length,(y::fr).length,false,[.ret t]]) (v0::is.map V.int) H Q E:=#[_,O,A0,Hv is hR,M,d];have hq:=VM (by simp[hlen]) f
    have N:s.heap.CodeRec (.ref cc) qual:=by
     rintro⟨oc,u,us,tk,d1,d2,d3⟩:M.2 _ Y;exact#[cc,oc,us,tk,rfl,(e0.Aj _ _ d1).1,d2,d3]
    rw[hj]at R
    let X:=Ka P w K mg base (y::fr) qual sc a (.ref cc) clos A outer s H E
    have L:Bb (c0.lam as sc) X W (Be fns As k) (2 * k + 4):=
     Pu (X:=X) (ct:=c0.lam as sc) hw0 G g (j W base g) #[rfl,rfl,rfl,rfl,rfl,rfl,rfl] rfl rfl rfl rfl rfl T.symm hS.nd (XW.refl _) (λz=>by cases z) rfl (R.deeper _) PassesOwn.leaving λlp l e=>by cases e
    exact SM e0 R hS J N (B u0) r (by simp[hlen]) (λi x v e1 e2=>by
     rw[List.getElem?_map]at e2;rintro⟨m,e3,rfl⟩:oM e2
     exact hv i x m e1 e3) r0 (F4 IB (sizeOf b) b (Nat.le_refl _) L ht).v hq
theorem Xb{k:Nat}(g:Good K mg c0 W0 W base){f:Nat}(hf:f < nd)(hm:Hd fns f=false):GX P w K mg base MO (2 * (k + 1) + 4) (fad f) (FD f) (PS' f) (QU W (Be fns As (k + 1) f)):=by
 have:=(IU (P:=P) hw0 G hnl htn hlt D0 (Q9 hw0 G hnl htn hlt D0 k) g hf).1;rw[hm]at this;exact this
end
end
inductive Each{α:Type}(R:α->Prop):List α->Prop where
 |nil:Each R []
 |cons {a:α} {l:List α} (h:R a) (t:Each R l):Each R (a::l)
variable{α:Type}
theorem Each.mem{R:α->Prop}{l:List α}(h:Each R l):∀a∈l,R a:=by
 induction h with
 |nil=>intro a b;cases b
 |cons h t c=>
   intro a b;rcases mem_cons.mp b with z|z
   .rw[z];exact h
   .exact c a z
theorem Each.look{β:Type}[BEq α][LawfulBEq α]{R:α×β->Prop}{l:List (α×β)}(h:Each R l){a:α}{b:β}(e:l.lookup a=some b):R (a,b):=by
 induction h with
 |nil=>simp at e
 |@cons q l h t c=>
   rw[show q=(q.1,q.2)from rfl,lookup_cons]at e;cases hq:a == q.1 with
   |true=>
     rw[hq]at e;cases e;rw[eq_of_beq hq];exact h
   |false=>rw[hq]at e;exact c e
def M6(n:Nat)(ts:List (Addr×Addr))(K:Frag):Sp:=λvs H Q _=>∃(a:Addr) (ns:List Int),vs=[.ref a]/\(∃o,H a=some (.CK o (.lst (ns.map V.int))))/\ns.length<=n/\(∀p∈ts,H p.2=some (.Jp [].toArray))/\∀H',Q (.bl true) H'
variable{W:Wd}
theorem HH{H:Hp}:∀(ns:List Int),Cw W H (ns.map P.int) (ns.map V.int)
 |[]=>.nil
 |n::ns=>.cons (Aa.mpr rfl) (HH ns)
theorem SK{ts:List (Addr×Addr)}(c:∀q∈W.tabs,∃p∈ts,p.2=q.1)(g:W.NG=[]){n:Nat}{r:List C->Res C}(d:∀ns:List Int,ns.length<=n->r [.lst false (ns.map .int)]= .ok (.p (.bl true)))(vs:List V)(H:Hp)(Q:VK)(E:XK)(h:M6 n ts W.K vs H Q E):QU W r vs H Q E:=by
 rintro⟨a,ns,rfl,h1,h2,i,q⟩:h;refine#[[.lst false (ns.map .int)],λ_=>0,λ_=>False,#[.ref a,[],rfl,#[a,_,rfl,.inr h1,HH ns],rfl],#[λq hq=>?_,λq hq=>by rw[g]at hq;cases hq],?_]
 .obtain⟨p,f,e⟩:=c q hq;exact#[[].toArray,by rw[<-e];exact i p f,trivial,λj z=>by cases z]
 .rw[d ns h2];intro v H' b;rw[Ei b.1];exact q H'
theorem Fp{o:α}:∀{l:List (Addr×α)},l.lookup a=some o->(a,o)∈l
 |[],h=>by cases h
 | (b,p)::l,h=>by
   rw[lookup_cons]at h;cases c:a == b with
   |true=>rw[c]at h;cases h;rw[eq_of_beq c];exact mS
   |false=>rw[c]at h;exact mem_cons_of_mem _ (Fp h)
def K0:Value->Bool
 |.type s=>s == "list"
 |_=>false
theorem Nj{P:Program}{w:World}{K:Frag}{mg T:Str->Option Value}{k n:Nat}{fa:Addr}{fd:FuncData}{x:Str}{c:Shared}{vs:List Value}{ns:List Int}{ts:List (Addr×Addr)}
 (KX:K.In c.heap)(B:c.heap.Ns mainGlobals mg)(j:c.heap.Ns builtinsNs T)(Z:∀x:Str,x≠"__name__"->T x=bootBuiltins x)(L:c.heap.NoLimit)(hg:c.gens= [].toArray)
 (Y:∃bm t,mg "__builtins__"=some (.ref bm)/\bm≠builtinsNs/\c.heap.get? bm=some t/\t.cls= .type "module"/\t.dict=some builtinsNs/\t.data= .plain)
 (E:∀p∈ts,c.heap.get? p.2=some (tabObj [].toArray)/\codeHdIn K p.1 p.2=true/\K.lookup p.2=none)
 (N:c.heap.get? a=some {cls:=.type "list",data:=.seq vs.toArray})(hi:IntsAre vs ns)(hl:ns.length<=sizeLine)(U:ns.length<=n)(hr:BU k callerA)(X:∀a o,K.lookup a=some o->K0 o.cls=false)
 (F:∀base:Heap,K.In base->base.Ns mainGlobals mg->(∀p∈ts,base.BuiltinsAt mg p.2/\mainGlobals≠p.2)->GX P w K mg base MO k fa fd [x] (M6 n ts K))(D:∀(s:Shared) (u:Value),BindsTo s fd #[[u],[]] [(x,u)]):
 codeAny (model P w) callerA (.call (.ref fa) #[[.ref a],[]]) (λr s'=>r= .ok (.ret (.bool true))/\OldK c.heap s'.heap/\s'.os=c.os/\AllBare s'.gens) c:=by
 have rv:=Hq hi;have lenV:=hi.length
 have haT:∀p∈ts,p.2≠a:=λp g z=>by
  have:=(E p g).1;rw[z,N]at this;cases this
 have core : ∀H:Hp,(∃o,H a=some (.CK o (.lst (ns.map V.int))))->DD P w H c.heap->(∀p∈ts,H p.2=some (.Jp [].toArray))->(∀b,H b≠none->(b=a/\∃o xs,H b=some (.CK o (.lst xs)))\/∃p∈ts,p.2=b)->(H a≠none->K.lookup a=none)->
  codeAny (model P w) callerA (.call (.ref fa) #[[.ref a],[]]) (λr s'=>r= .ok (.ret (.bool true))/\OldK c.heap s'.heap/\s'.os=c.os/\AllBare s'.gens) c:=by
  intro H hS Aj O hA hK;have f:∀{b:Addr} {o:Obj},c.heap.get? b=some o->H b=none->(Hf c.heap H).get? b=some o:=λe n=>Q3 e n
  have J:∀{b:Addr} {o:Obj},c.heap.get? b=some o->(∀vs,o.data≠.seq vs)->(∀vs,o.data≠.fields vs)->H b=none:=λ{b o} e d1 d2=>by
   cases q:H b with
   |none=>rfl
   |some u=>
     rcases hA b (by rw[q];simp)with⟨z,_⟩|⟨p,g,z⟩
     .subst z;rw[N]at e;cases e;exact absurd rfl (d1 _)
     .subst z;rw[(E p g).1]at e;cases e;exact absurd rfl (d2 _)
  have l:∀{b:Addr} {m:Str->Option Value},c.heap.Ns b m->(Hf c.heap H).Ns b m:=λ{b m} ⟨o,es,ep,e,d,r⟩=>#[o,es,ep,f e (J e (λ_ z=>by rw[d]at z;cases z) λ_ z=>by rw[d]at z;cases z),d,r]
  have Q:K.In (Hf c.heap H):=λb o e=>f (KX b o e) (by
   cases q:H b with
   |none=>rfl
   |some u=>
     rcases hA b (by rw[q];simp)with⟨z,_⟩|⟨p,g,z⟩
     .subst z;rw[hK (by rw[q];simp)]at e;cases e
     .subst z
      rw[(E p g).2.2]at e;cases e)
  have hM:Mod K mg (Hf c.heap H):=#[Q,l B,#[T,l j,Z],let⟨mc,h1,h2⟩:=L;#[mc,l h1,h2]];have e0:FW P w K mg (Hf c.heap H) callerA [] c H:=#[rfl,hM,λb o e=>Si e,Nat.le_of_eq (Nw _ _),trivial,λb j=>absurd (show b∈([]:List Addr)from j) (by simp),Aj,.of_eq hg]
  have hBl:∀p∈ts,(Hf c.heap H).BuiltinsAt mg p.2/\mainGlobals≠p.2:=λp g=>by
   rintro⟨bm,t,b1,b2,G,b4,b5,R⟩:Y;rintro⟨og,es,ep,g1,g2,_⟩:B;refine#[#[bm,t,b1,b2,λz=>?_,λz=>?_,f G (J G (λ_ z=>by rw[R]at z;cases z) λ_ z=>by rw[R]at z;cases z),b4,b5,R],λz=>?_]
   .rw[z,g1]at G;cases G;rw[R]at g2;cases g2
   .rw[z,(E p g).1]at G;cases G;cases R
   .rw[z,(E p g).1]at g1;cases g1;cases g2
  refine codeAny_mono ((F _ Q (l B) hBl).run callerA [] c H #[[.ref a],[]] [.ref a] [.ref a] (λv _=>v= .bl true) E0 hr e0 (D c (.ref a)) (.cons rfl .nil) #[a,ns,rfl,hS,U,O,λ_=>rfl]) λr s' h=>?_
  cases r with
  |error e=>exact False.elim h
  |ok fl =>
    cases fl with
    |next=>exact False.elim h
    |brk=>exact False.elim h
    |cont=>exact False.elim h
    |ret u =>
      rintro⟨v,H',os,bare,un,y,r',q⟩:h;have q':v= .bl true:=q;subst q';obtain rfl:u=Value.bool true:=r'
      have old:∀b o,c.heap.get? b=some o->asItWas c.heap s'.heap b o:=λb o e=>by
       cases q:H b with
       |none=>exact .inl (un.keep b o e q (by intro z;exact absurd (show b∈([]:List Addr)from z) (by simp)) (by simp))
       |some u=>
         rcases hA b (by rw[q];simp)with⟨_,t,xs,z⟩|⟨p,g,z⟩
         .have z2:=un.IS b t _ z;rintro⟨e1,_⟩:Aj b _ z;rintro⟨e2,_⟩:y b _ z2;rw[e]at e1;cases e1;exact .inl e2
         .subst z;rintro⟨h1,h2,h3⟩:E p g;rw[h1]at e;cases e;rintro⟨more,e2⟩:un.Ii p.2 [].toArray (O p g);have e3:s'.heap.get? p.2=some {cls:=.none,data:=.fields ([].toArray++more)}:=y p.2 _ e2;rintro⟨oc,S,_,_,_,_,_,_,_,c1,c2,c3,c4,_⟩:codeHd_of_K KX h2;exact .inr (.inl #[#[p.1,oc,S,c1,c2,c3,c4],rfl,[].toArray,more,rfl,e3])
      refine#[rfl,#[old,λb o e=>?_],os,bare];rcases old b o e with z|⟨_,_,vs,more,_,z⟩|⟨_,_,⟨o',_,_,z,_⟩,_⟩
      .exact#[_,z]
      .exact#[_,z]
      .exact#[_,z]
 have A:∀(H:Hp) p,p∈ts->Br P w H c.heap p.2 (.Jp [].toArray):=λH p g=>(E p g).1
 by_cases hk:K.lookup a=none
 .refine core (λb=>if b∈ts.map (·.2)then some (.Jp [].toArray)else if b=a then some (.CK {cls:=.type "list",data:=.seq vs.toArray} (.lst (ns.map V.int)))else none) ?_ (λb u z=>?_) (λp g=>iP (mem_map_of_mem g)) (λb j=>?_) λ_=>hk
  .refine#[{cls:=.type "list",data:=.seq vs.toArray},?_];refine(iN λz=>?_).trans (iP rfl);rintro⟨p,g,e⟩:mem_map.mp z;exact haT p g e
  .by_cases j:b∈ts.map (·.2)
   .have I:=(iP j).symm.trans z;cases I;rintro⟨p,g,e⟩:mem_map.mp j;rw[<-e];exact A _ p g
   .by_cases i:b=a
    .have I:=((iN j).trans (iP i)).symm.trans z;cases I;subst i;exact#[N,by rw[lM];exact hl,vs,_,rv,N]
    .have I:=((iN j).trans (iN i)).symm.trans z;cases I
  .by_cases C:b∈ts.map (·.2)
   .obtain⟨p,g,e⟩:=mem_map.mp C;exact .inr #[p,g,e]
   .by_cases i:b=a
    .refine .inl #[i,_,_,(iN C).trans (iP i)]
    .exact absurd ((iN C).trans (iN i)) j
 .obtain⟨o,M⟩:∃o,K.lookup a=some o:=by
   cases q:K.lookup a with
   |none=>exact absurd q hk
   |some o=>exact#[o,rfl]
  have e:=KX a o M;rw[N]at e;cases e;exact absurd (X a _ M) (by simp[K0])
theorem walk{l:PySem.W.OpenLaw}{q:Program}{loose:List Str}{J:(Str->Option Value)->Heap->Prop}{r:World->Heap->Prop}{d:DefRec}{K:Params->Frag}(n:Nat)(k:Nat)(ts:List (Addr×Addr))(z:l.most=some n)(hz:n<=sizeLine)(m:d.params.defaults=[])(y:BU k callerA)
 (D:∀(w:World) (h:Heap),r w h->(K w.params).In h)(E:∀(w:World) (h:Heap),r w h->∀p∈ts.map (·.2),h.get? p=some (tabObj [].toArray))
 (F:∀(w:World) (mg:Str->Option Value) (fa:Addr) (h:Heap),(K w.params).In h->h.Ns mainGlobals mg->mg d.name=some (.ref fa)->
   (∀a o,(K w.params).lookup a=some o->K0 o.cls=false)/\(∀p∈ts,codeHdIn (K w.params) p.1 p.2=true/\(K w.params).lookup p.2=none)/\
   ∃fd:FuncData,(∀(s:Shared) (u:Value),BindsTo s fd #[[u],[]] [("_law_script",u)])/\∀base:Heap,(K w.params).In base->base.Ns mainGlobals mg->(∀p∈ts,base.BuiltinsAt mg p.2/\mainGlobals≠p.2)->GX l.prog w (K w.params) mg base MO k fa fd ["_law_script"] (M6 n ts (K w.params))):
 PySem.W.WalkO q loose J r l.row.toRowW d [] (λf vs=>PySem.call f vs):=by
 refine Att.Kn z m λw s₀ t mg L fa o pm cd doc a vs ns G c M hd B i e hints hlen A=>?_
 have x:=D w _ c;rintro⟨j,I,fd,C,H⟩:F w mg fa _ x G.T.g i;exact Nj x G.T.g G.T.b G.T.builtins G.T.nolimit A G.T.bmain (λp v=>#[E w _ c p.2 (mem_map_of_mem v),I p v]) e hints (Nat.le_trans hlen hz) hlen y j H C
end Nv
namespace Nv
open PySem
def dA:Stmt->Str
 |.FunctionDef n ..=>n
 |_=>#[[].toArray]
def LF:Stmt->Scope
 |.FunctionDef _ _ _ _ _ _ sc ..=>sc
 |_=>#[.module,[],false,false,[]]
def Qp:Stmt->List Stmt
 |.FunctionDef _ _ b ..=>b
 |_=>[]
def FC:Stmt->List Str
 |.FunctionDef _ a ..=>a.args.map (·.arg)
 |_=>[]
def UH:Stmt->Bool
 |.FunctionDef ..=>true
 |_=>false
def UN:List Stmt->List Str
 |[]=>[]
 |.Assign [.Attribute (.Name _ _) f _] _ _::r=>f::UN r
 |_::r=>UN r
def namesOf(st:Stmt):List Str:=
 let ps:=FC st
 ps++((LF st).names.filter λq=>(q.2 == .local || q.2 == .cell) && !ps.contains q.1).map (·.1)
def Zs:Expr->List (Pos×Arguments×Expr×Scope)
 |.Call _ [_,.Lambda a b sc p] _ _=>[(p,a,b,sc)]
 |_=>[]
def Zr:Stmt->List (Pos×Arguments×Expr×Scope)
 |.Return (some e) _=>Zs e
 |_=>[]
def c9(st:Stmt)(fn mt mu cl:List (Str×Nat))(fl:List Str)(gl:List (Str×C))(lm:List (Pos×Nat))(lt:Nat->Nat->T->Bool):Ct:=#[namesOf st,LF st,fn,mt,mu,cl,fl,gl,true,lm,lt]
def bV(st:Stmt)(ct:Ct)(m:Bool):Option LN:=(SO ct (Qp st)).map λb=>#[(FC st).length,ct.N.length,m,b]
end Nv
namespace Nv
open PySem L2 PyProof.Rows
noncomputable def KJ(N ps:List Str)(sc:Scope):Bool:=sc.kind == .function && !sc.isCoroutine && !sc.isGenerator && decide N.Nodup && decide (N.take ps.length=ps) && (ps.all λx=>sc.names.lookup x == some .local || sc.names.lookup x == some .cell) && sc.names.all λy=>y.2 != .free
theorem Oy{N ps:List Str}{sc:Scope}(h:KJ N ps sc=true):EI N ps sc:=by
 simp only[KJ,bA,all_eq_true,decide_eq_true_eq,Bool.or_eq_true,beq_iff_eq,bne_iff_ne,Bool.not_eq_true']at h;rintro⟨⟨⟨⟨⟨⟨h1,h2⟩,e⟩,d⟩,c⟩,b⟩,a⟩:h;exact#[h1,h2,e,d,c,b,a]
theorem Lk{s:Stmt}(h:UH s=true):Qp s=DN s/\LF s=Bp s:=by
 cases s<;>first|exact#[rfl,rfl]|cases h
section
variable{P:List Value->Prop}{us:List Value}
theorem u0(h:P [])(hl:us.length=0):P us:=by rw[List.length_eq_zero_iff.mp hl];exact h
theorem Ec{n:Nat}(hl:us.length=n + 1):∃a vs,us=a::vs/\vs.length=n:=by
 cases us with
 |nil=>cases hl
 |cons a vs=>exact#[a,vs,rfl,Nat.succ.inj hl]
theorem u1(h:∀a,P [a])(hl:us.length=1):P us:=by rintro⟨a,vs,rfl,hq⟩:Ec hl;exact u0 (P:=λvs=>P (a::vs)) (h a) hq
theorem u2(h:∀a b,P [a,b])(hl:us.length=2):P us:=by rintro⟨a,vs,rfl,hq⟩:Ec hl;exact u1 (P:=λvs=>P (a::vs)) (h a) hq
theorem u3(h:∀a b c,P [a,b,c])(hl:us.length=3):P us:=by rintro⟨a,vs,rfl,hq⟩:Ec hl;exact u2 (P:=λvs=>P (a::vs)) (h a) hq
theorem u4(h:∀a b c d,P [a,b,c,d])(hl:us.length=4):P us:=by rintro⟨a,vs,rfl,hq⟩:Ec hl;exact u3 (P:=λvs=>P (a::vs)) (h a) hq
theorem u5(h:∀a b c d e,P [a,b,c,d,e])(hl:us.length=5):P us:=by rintro⟨a,vs,rfl,hq⟩:Ec hl;exact u4 (P:=λvs=>P (a::vs)) (h a) hq
end
end Nv
namespace Lk17
open PySem L2 Nv PyProof.Rows
def bd(i:Nat):Stmt:=PySem.Challenge.pw_kinddeeds_k17_tree_walked.main.body.getD i (.Pass #[0,0,0,0])
noncomputable def eI:List Stmt:=[bd 0,bd 2,bd 3,bd 4,bd 5,bd 6,bd 21,bd 22,bd 23,bd 24,bd 25,bd 26,bd 27,bd 36,bd 37,bd 38,bd 39,bd 40,bd 41,bd 42,bd 43,bd 44,bd 45,bd 46,bd 47,bd 48,bd 49,bd 50,bd 51,bd 52,bd 53,bd 54,bd 55,bd 56,bd 58,bd 59,bd 60,bd 61,bd 62,bd 63,bd 64,bd 65,bd 66,bd 67,bd 68,bd 69,bd 70,bd 71,bd 72,bd 73,bd 77,bd 78,bd 79,bd 80,bd 81,bd 82,bd 83,bd 84,bd 85,bd 86,bd 87,bd 88,bd 89,bd 90,bd 91,bd 92,bd 93,bd 94,bd 95,L2.inClass (bd 75) 0,L2.inClass (bd 75) 1,L2.inClass (bd 75) 2,L2.inClass (bd 75) 3,L2.inClass (bd 75) 4,L2.inClass (bd 75) 5,L2.inClass (bd 75) 6,L2.inClass (bd 75) 7,L2.inClass (bd 75) 8,L2.inClass (bd 75) 9,L2.inClass (bd 75) 10,L2.inClass (bd 75) 11,L2.inClass (bd 75) 12,L2.inClass (bd 75) 13]
def st(i:Nat):Stmt:=eI.getD i (.Pass #[0,0,0,0])
noncomputable def tf:List (Str×Nat):=[(("_wall":Str),0),("serves",1),("tree_by_elders",2),("tree_by_given",3),("tree_by",4),("tree_of",5),("is_name",6),("is_whole",7),("is_open_kind",8),("has_made_form",9),("is_kind",10),("kinds_within",11),("opens_of",12),("is_form_name",13),("is_number",14),("is_few",15),("is_few_of",16),("is_unlike_names",17),("is_one_to_four",18),("has_sort",19),("has_arm_form",20),("has_node_form",21),("node_parts",22),("is_expression",23),("is_kind_below",24),("is_few_kinds",25),("is_form",26),("is_kind_row",27),("is_deed_row",28),("is_need",29)]++[(("is_body_row":Str),30),("is_row",31),("checked",32),("told_by",33),("told_of_itself",34),("first_told_twice",35),("row_kinds",36),("made_kinds",37),("kinds_named",38),("classes_named",39),("names_no_deed",40),("names_nothing",41),("is_miscounted",42),("is_in_ring",43),("leaves_kind_out",44),("lacks_body",45),("follows",46),("lacks_elder_house",47),("first_row",48),("look_at",49),("_law_mixed",50),("_law_names",51),("_law_form_names",52),("_law_kind",53),("_law_expression",54),("_law_kind_rows",55),("_law_class_rows",56),("_law_deed_rows",57),("_law_needs",58),("_law_house_rows",59)]++[(("_law_body_rows":Str),60),("_law_turned",61),("_law_world",62),("_law_closed",63),("_law_kind_names",64),("_law_house",65),("_law_walked",66),("_law_lacks",67),("law",68)]
def tm:List (Str×Nat):=[(("rows":Str),71),("many_of",72),("forms_of",73),("kind_of_form",74),("elders_of",75),("far_elders",76),("deed_of",77),("deeds_of",78),("house_of",79),("house_at",80),("needs_of",81),("body_of",82)]
def tu:List (Str×Nat):=[(("keep_told":Str),70)]
def tc:List (Str×Nat):=[(("Lore":Str),69)]
def tl:List Str:=["program","tellers","numbers"]
def SH:List (Nv.P×Nv.P):=[(.str "kind",.int 4),(.str "class",.int 3),(.str "deed",.int 5),(.str "once",.int 4),(.str "house",.int 4),(.str "does",.int 6),(.str "def",.int 4),(.str "ask",.int 2)]
def cS:Nv.P:=.tup [.tup [.str "kind",.str "whole",.int 0,.tup []],.tup [.str "kind",.str "truth",.int 0,.tup [.tup [.str "No",.tup []],.tup [.str "Yes",.tup []]]]]
def cR:Nv.P:=.tup [.str "plus",.str "minus",.str "under"]
noncomputable def tg:List (Str×Nv.C):=[(("MOST_LETTERS":Str),.p (.int 8)),("MOST_PARTS",.p (.int 3)),("MOST_SIZE",.p (.int 24)),("MOST_ROWS",.p (.int 40)),("MOST_NODES",.p (.int 40)),("MOST_ABOVE",.p (.int 11)),("MOST_FORMS",.p (.int 4)),("LENGTHS",.Bl false SH),("OWN_KINDS",.p cS),("OWN_FUNCTIONS",.p cR)]
def XM:Nv.T->Nat->Bool
 |.var i,j=>i == j
 |_,_=>false
def lt(l m:Nat):Nv.T->Bool
 |.call f xs=>l == 83 && m == 2 && f == 24 && xs.length == 2 && (xs[0]?).any (XM · 0) && (xs[1]?).any (XM · 1)
 |_=>false
def c0:Ct:=#[[],#[.module,[],false,false,[]],tf,tm,tu,tc,tl,tg,false,[],lt]
def lm(i:Nat):List (Pos×Nat):=((Qp (st i)).flatMap Zr).map λq=>(q.1,83)
def Zu:LN:=#[2,2,false,[.ret (.call 24 [.var 0,.var 1])]]
def HC(i:Nat):Bool:=i == 69 || i == 70
def aw(i:Nat):Ct:=c9 (st i) tf tm tu tc tl tg (lm i) lt
def fnAt(i:Nat):LN:=(bV (st i) (aw i) (HC i)).getD #[0,0,false,[]]
def fns:List LN:=(List.range 83).map fnAt++[Zu]
theorem PV{t:Nv.T}{j:Nat}(h:XM t j=true):t= .var j:=by
 cases t with
 |var i=>rw[show i=j from by simpa[XM]using h]
 |_=>cases h
theorem Zn(l m:Nat)(t:Nv.T)(h:lt l m t=true):fns[l]? =some #[m,m,false,[.ret t]]:=by
 cases t with
 |call f xs=>
   simp only[lt,bA,beq_iff_eq]at h;rintro⟨⟨⟨⟨⟨rfl,rfl⟩,rfl⟩,hl⟩,h1⟩,h2⟩:h;rcases xs with _|⟨a,_|⟨b,_|⟨_,_⟩⟩⟩
   .cases hl
   .cases hl
   .have e1:XM a 0=true:=h1;have e2:XM b 1=true:=h2;cases PV e1;cases PV e2;rfl
   .simp at hl
 |_=>cases h
structure Tp(K:Frag)(x:Str)(i:Nat)(f:Addr)(d:FuncData):Prop where
 a:nsIn K mainGlobals x=some (some (.ref f))
 l:TY K x x (st i) f d
structure Tm(K:Frag)(C:Addr)(x qual:Str)(i:Nat)(f:Addr)(d:FuncData):Prop where
 m:findIn K (.ref C) x=some (some (.ref f))/\isFn K (.ref f)=true
 l:TY K x qual (st i) f d
variable{h:Heap}{mg:Str->Option Value}
theorem Yp{K:Frag}{i:Nat}{d:FuncData}(X:K.In h)(G:h.Ns mainGlobals mg)(s:Tp K x i f d)(hl:i < 83)(hm:Hd fns i=false):mg x=some (.ref f)/\i < 83/\Hd fns i=false:=#[mg_of X G s.a,hl,hm]
variable{qual:Str}
theorem U5{K:Frag}{C:Addr}{i:Nat}{d:FuncData}{b:Bool}(s:Tm K C x qual i f d)(hf:x∉tl)(hl:i < 83)(hm:Hd fns i=b):x∉tl/\Meth K C x f/\i < 83/\Hd fns i=b:=#[hf,#[s.m.1,s.m.2,s.l.kp],hl,hm]
noncomputable def tupK(K:Frag):Nat->Nv.P->Value->Bool
 |n+1,.tup ps,.ref a=>(K.lookup a).any λo=>(match o.cls with| .type s=>s == "tuple"|_=>false) && (match o.data with| .seq its _=>its.size == ps.length && decide (ps.length<=1000) && (ps.zip its.toList).all λq=>tupK K n q.1 q.2|_=>false)
 |_,.str x,.str y _=>x == y
 |_,.int i,.int j _=>i == j
 |_,_,_=>false
theorem Ig{K:Frag}:∀(n:Nat) {p:Nv.P} {u:Value},tupK K n p u=true->∃v,RelV v u/\∀(W:Wd) (H:Hp),W.K=K->A5 W H p v
 | 0,p,u,h=>by
   cases p with
   |int i=>
     cases u with
     |int j t=>cases (show i=j from by simpa[tupK]using h);exact#[.int i,#[t,rfl],λW H _=>Aa.mpr rfl]
     |_=>cases h
   |str i=>
     cases u with
     |str j t=>cases (show i=j from by simpa[tupK]using h);exact#[.str i,#[t,rfl],λW H _=>AJ.mpr rfl]
     |_=>cases h
   |_=>cases h
 | n + 1, p, u,h=>by
   cases p with
   |int i=>
     cases u with
     |int j t=>cases (show i=j from by simpa[tupK]using h);exact#[.int i,#[t,rfl],λW H _=>Aa.mpr rfl]
     |_=>cases h
   |str i=>
     cases u with
     |str j t=>cases (show i=j from by simpa[tupK]using h);exact#[.str i,#[t,rfl],λW H _=>AJ.mpr rfl]
     |_=>cases h
   |tup ps=>
     cases u with
     |ref a =>
       rintro⟨o,h1,h2⟩:any_some (show((K.lookup a).any λo=>(match o.cls with| .type s=>s == "tuple"|_=>false) && (match o.data with| .seq its _=>its.size == ps.length && decide (ps.length<=1000) && (ps.zip its.toList).all λq=>tupK K n q.1 q.2|_=>false))=true from h);rw[bA]at h2;rintro⟨h2,b⟩:h2;rintro⟨oc,y,f,os⟩:o;cases oc with
       |type s=>
         cases (show s="tuple" from by simpa using h2);cases f with
         |seq its m=>
           rw[bA,bA]at b;rintro⟨⟨b,k⟩,x⟩:b;have hl:its.toList.length=ps.length:=by simpa using b
           have key:∀(ps:List Nv.P) (us:List Value),us.length=ps.length->(ps.zip us).all (λq=>tupK K n q.1 q.2)=true->∃vs,Vals vs us/\∀(W:Wd) (H:Hp),W.K=K->Cw W H ps vs:=by
            intro ps
            induction ps with
            |nil=>intro us hl _;cases us with|nil=>exact#[[],.nil,λ_ _ _=>.nil]|cons _ _=>cases hl
            |cons p ps w=>
              intro us hl g;cases us with
              |nil=>cases hl
              |cons u us=>
                rw[zip_cons_cons,all_cons,bA]at g;rintro⟨v,d,c⟩:Ig n g.1;rintro⟨vs,r,l⟩:w us (by simpa using hl) g.2;exact#[v::vs,.cons d r,λW H e=>.cons (c W H e) (l W H e)]
           rintro⟨vs,d,c⟩:key ps its.toList hl x;have k:=of_decide_eq_true k;have z:=Bw;have hs:big=100000:=rfl;refine#[.ref a,rfl,λW H e=>A9.mpr #[a,vs,rfl,.inr #[_,its,m,by rw[e];exact h1,rfl,rfl,?_,d],c W H e]];rw[<-Array.length_toList]
           lia
         |_=>cases b
       |_=>cases h2
     |_=>cases h
   |_=>cases h
abbrev Pz(w:World)(k0 v0 k1 v1 k2 v2 k3 v3 k4 v4 k5 v5 k6 v6 k7 v7:Tok):List DictEntry:=[#[hashStr w "kind",.str "kind" k0,.int 4 v0],#[hashStr w "class",.str "class" k1,.int 3 v1],#[hashStr w "deed",.str "deed" k2,.int 5 v2],#[hashStr w "once",.str "once" k3,.int 4 v3],#[hashStr w "house",.str "house" k4,.int 4 v4],#[hashStr w "does",.str "does" k5,.int 6 v5],#[hashStr w "def",.str "def" k6,.int 4 v6],#[hashStr w "ask",.str "ask" k7,.int 2 v7]]
variable{W:Wd}
theorem SG{H:Hp}{a:Addr}{l v0 k1 v1 k2 v2 j d i v4 g c f v6 e b:Tok}(sm:(a == sysModules)=false):DE W H a SH (Pz W.w l v0 k1 v1 k2 v2 j d i v4 g c f v6 e b):=by
 refine#[?_,by decide +kernel,by decide +kernel,by decide,sm];have one:∀(k:Str) (v:Int) (t u:Tok),FG W H (.str k,.int v) #[hashStr W.w k,.str k t,.int v u]:=λk v t u=>#[rfl,#[.str k,#[t,rfl],AJ.mpr rfl],.int v,#[u,rfl],Aa.mpr rfl]
 exact(.cons (one _ _ _ _) (.cons (one _ _ _ _) (.cons (one _ _ _ _) (.cons (one _ _ _ _) (.cons (one _ _ _ _) (.cons (one _ _ _ _) (.cons (one _ _ _ _) (.cons (one _ _ _ _) .nil))))))))
def dh(i:Nat):Bool:=UH (st i) && KJ (Nv.namesOf (st i)) (FC (st i)) (Bp (st i)) && (bV (st i) (aw i) (HC i)).isSome && (i == 25 || (lm i).isEmpty)
theorem Wq:(List.range 83).all dh=true:=by kernel_rfl
theorem Xg{K:Frag}{i:Nat}{fd:FuncData}(F:TY K x qual (st i) f fd)(hi:i < 83)
 (h:∀(kV doc pm:Value) (an:Option Addr) (g ct:Value) (us:List Value),us.length=(FC (st i)).length->bindArgs (fnOf x qual (J2 (st i)) (DN (st i)) (Bp (st i)) .none kV doc pm an g ct) #[us,[]]=pure ((FC (st i)).zip us))
 (hl:i=25->∀lp l,(lm i).lookup lp=some l->∃c P,fd.code= .ref c/\codeHdIn K c P=true/\(P,lp,(qual++".<locals>.")++"<lambda>")∈W.tabs):MN K W c0 f (fnAt i) fd (FC (st i)):=by
 have ok:=all_eq_true.mp Wq i (mem_range.mpr hi);simp only[dh,bA,Bool.or_eq_true,beq_iff_eq,isEmpty_iff]at ok;rintro⟨⟨⟨o1,o2⟩,o3⟩,j⟩:ok;rintro⟨e1,e2⟩:Lk o1;rintro⟨fi,a⟩:Option.isSome_iff_exists.mp o3;have e:fnAt i=fi:=by unfold fnAt;rw[a];rfl
 rw[e];unfold bV at a;rintro⟨b,d,rfl⟩:oM a;exact#[x,qual,st i,aw i,F,Oy o2,by rw[<-e1];exact d,rfl,rfl,e2,rfl,#[rfl,rfl,rfl,rfl,rfl,rfl,rfl],F.binds h,λlp l q=>j.elim (λz=>hl z lp l q) λz=>by rw[show(aw i).Lc=[]from z]at q;cases q]
local macro_rules
|`($u:ident>=>$s>=>$r)=>`(.cons ⟨_,Xg ($s).l (by decide) (λ_ _ _ _ _ _ us hl=>$u (P:=λus=>bindArgs _ ⟨us,[]⟩=pure (List.zip _ us)) (by intros;kernel_rfl) hl) nofun⟩ $r)
theorem Xa{i:Nat}(hi:i < 83):fns[i]? =some (fnAt i):=by
 unfold fns;rw[List.getElem?_append_left (by simpa using hi),List.getElem?_map,List.getElem?_range hi];rfl
theorem all_mk{l:PySem.W.OpenLaw}{w:World}{K:Frag}{fa j aL r n:Addr}{d0 d1 d2 d3 d4 d5 d6 d7 d8 d9 d10 d11 d12 d13 d14 d15 d16 d17 d18 d19 d20 d21 d22 d23 d24 A d26 d27 d28 d29 d30 d31 d32 d33 d34 d35 d36 d37 d38 d39 d40 d41 d42 d43 d44 d45 d46 d47 d48 d49 d50 d51 d52 d53 d54 d55 d56 d57 d58 d59 d60 d61 d62 d63 d64 d65 d66 d67 d68 d69 d70 d71 d72 d73 d74 d75 d76 d77 d78 d79 d80 d81 d82:FuncData}{t0 t1 t2 t3 t4 t5 t6:Tok}{kt0 T kt1 S kt2 O kt3 N kt4 M kt5 L kt6 J Z I:Tok}{ep:Nat}{V U:Value}
 (hlaw:∀ns:List Int,ns.length<=63->Be fns As 98 68 [.lst false (ns.map .int)]= .ok (.p (.bl true)))(X:K.In h)(G:h.Ns mainGlobals mg)(hfa:mg "law"=some (.ref fa))
 (kl:K.all (λq=>!K0 q.2.cls)=true)
 (s0:Tp K "_wall" 0 f0 d0)
 (s1:Tp K "serves" 1 f1 d1)
 (s2:Tp K "tree_by_elders" 2 f2 d2)
 (s3:Tp K "tree_by_given" 3 f3 d3)
 (s4:Tp K "tree_by" 4 f4 d4)
 (s5:Tp K "tree_of" 5 f5 d5)
 (s6:Tp K "is_name" 6 f6 d6)
 (s7:Tp K "is_whole" 7 f7 d7)
 (s8:Tp K "is_open_kind" 8 f8 d8)
 (s9:Tp K "has_made_form" 9 f9 d9)
 (s10:Tp K "is_kind" 10 f10 d10)
 (s11:Tp K "kinds_within" 11 f11 d11)
 (s12:Tp K "opens_of" 12 f12 d12)
 (s13:Tp K "is_form_name" 13 f13 d13)
 (s14:Tp K "is_number" 14 f14 d14)
 (s15:Tp K "is_few" 15 f15 d15)
 (s16:Tp K "is_few_of" 16 f16 d16)
 (s17:Tp K "is_unlike_names" 17 f17 d17)
 (s18:Tp K "is_one_to_four" 18 f18 d18)
 (s19:Tp K "has_sort" 19 f19 d19)
 (s20:Tp K "has_arm_form" 20 f20 d20)
 (s21:Tp K "has_node_form" 21 f21 d21)
 (s22:Tp K "node_parts" 22 f22 d22)
 (s23:Tp K "is_expression" 23 f23 d23)
 (s24:Tp K "is_kind_below" 24 f24 d24)
 (s25:Tp K "is_few_kinds" 25 f25 A)
 (s26:Tp K "is_form" 26 f26 d26)
 (s27:Tp K "is_kind_row" 27 f27 d27)
 (s28:Tp K "is_deed_row" 28 f28 d28)
 (s29:Tp K "is_need" 29 f29 d29)
 (s30:Tp K "is_body_row" 30 f30 d30)
 (s31:Tp K "is_row" 31 f31 d31)
 (s32:Tp K "checked" 32 f32 d32)
 (s33:Tp K "told_by" 33 f33 d33)
 (s34:Tp K "told_of_itself" 34 f34 d34)
 (s35:Tp K "first_told_twice" 35 f35 d35)
 (s36:Tp K "row_kinds" 36 f36 d36)
 (s37:Tp K "made_kinds" 37 f37 d37)
 (s38:Tp K "kinds_named" 38 f38 d38)
 (s39:Tp K "classes_named" 39 f39 d39)
 (s40:Tp K "names_no_deed" 40 f40 d40)
 (s41:Tp K "names_nothing" 41 f41 d41)
 (s42:Tp K "is_miscounted" 42 f42 d42)
 (s43:Tp K "is_in_ring" 43 f43 d43)
 (s44:Tp K "leaves_kind_out" 44 f44 d44)
 (s45:Tp K "lacks_body" 45 f45 d45)
 (s46:Tp K "follows" 46 f46 d46)
 (s47:Tp K "lacks_elder_house" 47 f47 d47)
 (s48:Tp K "first_row" 48 f48 d48)
 (s49:Tp K "look_at" 49 f49 d49)
 (s50:Tp K "_law_mixed" 50 f50 d50)
 (s51:Tp K "_law_names" 51 f51 d51)
 (s52:Tp K "_law_form_names" 52 f52 d52)
 (s53:Tp K "_law_kind" 53 f53 d53)
 (s54:Tp K "_law_expression" 54 f54 d54)
 (s55:Tp K "_law_kind_rows" 55 f55 d55)
 (s56:Tp K "_law_class_rows" 56 f56 d56)
 (s57:Tp K "_law_deed_rows" 57 f57 d57)
 (s58:Tp K "_law_needs" 58 f58 d58)
 (s59:Tp K "_law_house_rows" 59 f59 d59)
 (s60:Tp K "_law_body_rows" 60 f60 d60)
 (s61:Tp K "_law_turned" 61 f61 d61)
 (s62:Tp K "_law_world" 62 f62 d62)
 (s63:Tp K "_law_closed" 63 f63 d63)
 (s64:Tp K "_law_kind_names" 64 f64 d64)
 (s65:Tp K "_law_house" 65 f65 d65)
 (s66:Tp K "_law_walked" 66 f66 d66)
 (s67:Tp K "_law_lacks" 67 f67 d67)
 (t:Tp K "law" 68 f68 d68)
 (hC:nsIn K mainGlobals "Lore"=some (some (.ref j)))
 (y:Tm K j "__init__" "Lore.__init__" 69 f69 d69)
 (Y:Tm K j "keep_told" "Lore.keep_told" 70 f70 d70)
 (s71:Tm K j "rows" "Lore.rows" 71 f71 d71)
 (s72:Tm K j "many_of" "Lore.many_of" 72 f72 d72)
 (s73:Tm K j "forms_of" "Lore.forms_of" 73 f73 d73)
 (s74:Tm K j "kind_of_form" "Lore.kind_of_form" 74 f74 d74)
 (s75:Tm K j "elders_of" "Lore.elders_of" 75 f75 d75)
 (s76:Tm K j "far_elders" "Lore.far_elders" 76 f76 d76)
 (s77:Tm K j "deed_of" "Lore.deed_of" 77 f77 d77)
 (s78:Tm K j "deeds_of" "Lore.deeds_of" 78 f78 d78)
 (s79:Tm K j "house_of" "Lore.house_of" 79 f79 d79)
 (s80:Tm K j "house_at" "Lore.house_at" 80 f80 d80)
 (s81:Tm K j "needs_of" "Lore.needs_of" 81 f81 d81)
 (s82:Tm K j "body_of" "Lore.body_of" 82 f82 d82)
 (kL:A.code= .ref r)(hL:codeHdIn K r n=true)(uL:K.lookup n=none)
 (y1:plainGet K j Str.empty=true)(y2:hasDictIn K j=true)(y3:plainOver K j=true)(y4:findIn K (.ref j) "__setattr__"=some (some (.builtin "object.__setattr__")))(y5:makesIn K j=true)(y6:keepIn K (.ref j)=true)
 (y7:Each (λx=>findIn K (.ref j) x=some none) tl)
 (z:Each (λx=>nsIn K mainGlobals x=some none) Ja)
 (g0:nsIn K mainGlobals "MOST_LETTERS"=some (some (.int 8 t0)))
 (g1:nsIn K mainGlobals "MOST_PARTS"=some (some (.int 3 t1)))
 (g2:nsIn K mainGlobals "MOST_SIZE"=some (some (.int 24 t2)))
 (g3:nsIn K mainGlobals "MOST_ROWS"=some (some (.int 40 t3)))
 (g4:nsIn K mainGlobals "MOST_NODES"=some (some (.int 40 t4)))
 (g5:nsIn K mainGlobals "MOST_ABOVE"=some (some (.int 11 t5)))
 (g6:nsIn K mainGlobals "MOST_FORMS"=some (some (.int 4 t6)))
 (gL:nsIn K mainGlobals "LENGTHS"=some (some (.ref aL)))(zL:List.lookup aL K=some #[.type "dict",none,.dict (Pz w kt0 T kt1 S kt2 O kt3 N kt4 M kt5 L kt6 J Z I).toArray ep,[].toArray])(sL:(aL == sysModules)=false)
 (gT0:nsIn K mainGlobals "OWN_KINDS"=some (some V))(zT0:tupK K 9 cS V=true)
 (gT1:nsIn K mainGlobals "OWN_FUNCTIONS"=some (some U))(zT1:tupK K 9 cR U=true)
 :(∀a o,K.lookup a=some o->K0 o.cls=false)/\(∀p∈([(r,n)]:List (Addr×Addr)),codeHdIn K p.1 p.2=true/\K.lookup p.2=none)/\∃fd:FuncData,(∀(s:Shared) (v:Value),BindsTo s fd #[[v],[]] [("_law_script",v)])/\∀base:Heap,K.In base->base.Ns mainGlobals mg->(∀p∈([(r,n)]:List (Addr×Addr)),base.BuiltinsAt mg p.2/\mainGlobals≠p.2)->GX l.prog w K mg base Nv.MO 200 fa fd ["_law_script"] (M6 63 [(r,n)] K):=by
 refine#[λa o e=>by simpa using all_eq_true.mp kl (a,o) (Nv.Fp e),λp hp=>by cases mE hp;exact#[hL,uL],?_]
 have e:f68=fa:=by
  have e:=(mg_of X G t.a).symm.trans hfa;injection e with e
  injection e
 subst e
 let fl:List Addr:=[f0,f1,f2,f3,f4,f5,f6,f7,f8,f9,f10,f11,f12,f13,f14,f15,f16,f17,f18,f19,f20,f21,f22,f23,f24,f25,f26,f27,f28,f29,f30,f31,f32,f33,f34,f35,f36,f37,f38,f39,f40,f41,f42,f43,f44,f45,f46,f47,f48,f49,f50,f51,f52,f53,f54,f55,f56,f57,f58,f59,f60,f61,f62,f63,f64,f65,f66,f67,f68,f69,f70,f71,f72,f73,f74,f75,f76,f77,f78,f79,f80,f81,f82]
 let g:Wd:=#[K,w,j,tl,λm c a=>m < 83/\Hd fns m=false/\c=[]/\a=fl.getD m 0,[(n,((lm 25).map (·.1)).headD #[0,0,0,0],(Str.ofString "is_few_kinds"++(".<locals>.":Str))++("<lambda>":Str))],[]]
 have lmL:lm 25=[(((lm 25).map (·.1)).headD #[0,0,0,0],83)]:=by kernel_rfl
 have hlL:∀lp l,(lm 25).lookup lp=some l->∃c P,A.code= .ref c/\codeHdIn K c P=true/\(P,lp,(Str.ofString "is_few_kinds"++(".<locals>.":Str))++("<lambda>":Str))∈g.tabs:=by
  intro lp l hq;rw[lmL,lookup_cons]at hq;cases hb:lp == ((lm 25).map (·.1)).headD #[0,0,0,0]with
  |true=>rw[eq_of_beq hb];exact#[r,n,kL,hL,by simp[g]]
  |false=>rw[hb]at hq;cases hq
 have D1:Each (λi=>∃fd:FuncData,MN K g c0 (fl.getD i 0) (fnAt i) fd (FC (st i))) (List.range 83):=u1>=>s0>=>u3>=>s1>=>u4>=>s2>=>u4>=>s3>=>u4>=>s4>=>u3>=>s5>=>u1>=>s6>=>u1>=>s7>=>u1>=>s8>=>u1>=>s9>=>u1>=>s10>=>u1>=>s11>=>u1>=>s12>=>u1>=>s13>=>u1>=>s14>=>u1>=>s15>=>u2>=>s16>=>u1>=>s17>=>u1>=>s18>=>u1>=>s19>=>u1>=>s20>=>u1>=>s21>=>u1>=>s22>=>u1>=>s23>=>u2>=>s24>=>.cons ⟨_,Xg s25.l (by decide) (λ_ _ _ _ _ _ us hl=>u2 (P:=λus=>bindArgs _ ⟨us,[]⟩=pure (List.zip _ us)) (λ_ _=>by kernel_rfl) hl) λ_=>hlL⟩ (u2>=>s26>=>u1>=>s27>=>u1>=>s28>=>u1>=>s29>=>u1>=>s30>=>u1>=>s31>=>u1>=>s32>=>u1>=>s33>=>u0>=>s34>=>u1>=>s35>=>u1>=>s36>=>u1>=>s37>=>u1>=>s38>=>u1>=>s39>=>u2>=>s40>=>u2>=>s41>=>u2>=>s42>=>u2>=>s43>=>u2>=>s44>=>u2>=>s45>=>u3>=>s46>=>u2>=>s47>=>u2>=>s48>=>u1>=>s49>=>u2>=>s50>=>u2>=>s51>=>u2>=>s52>=>u4>=>s53>=>u4>=>s54>=>u3>=>s55>=>u2>=>s56>=>u4>=>s57>=>u5>=>s58>=>u4>=>s59>=>u4>=>s60>=>u2>=>s61>=>u1>=>s62>=>u3>=>s63>=>u1>=>s64>=>u3>=>s65>=>u4>=>s66>=>u3>=>s67>=>u1>=>t>=>u2>=>y>=>u2>=>Y>=>u1>=>s71>=>u2>=>s72>=>u2>=>s73>=>u2>=>s74>=>u2>=>s75>=>u2>=>s76>=>u2>=>s77>=>u2>=>s78>=>u3>=>s79>=>u2>=>s80>=>u2>=>s81>=>u3>=>s82>=>.nil)
 have D0:∀f,∃fd:FuncData,∀fi,f < 83->fns[f]? =some fi->MN K g c0 (fl.getD f 0) fi fd (FC (st f)):=λf=>by
  by_cases h:f < 83
  .obtain⟨fd,D⟩:=D1.mem f (mem_range.mpr h);exact#[fd,λfi _ e=>by rw[Xa h]at e;cases e;exact D]
  .exact#[d0,λ_ z=>absurd z h]
 rintro⟨FD,D⟩:Classical.skolem.mp D0
 have eL:FD 68=d68:=by
  rintro⟨x,qual,st,ct,F,_⟩:(D 68 _ (by lia) rfl).ex;rintro⟨_,_,_,_,_,_,_,_,_,_,lk,_⟩:F.ex;rintro⟨_,_,_,_,_,_,_,_,_,_,lk2,_⟩:t.l.ex;have lk:=lk.symm.trans lk2;injection lk with lk
  injection lk with _ _ lk _
  injection lk with lk
 have Gb:cE K mg g 83 (λf=>fl.getD f 0) fns c0:=by
  refine#[rfl,λ_ _ _=>Iff.rfl,λx c h=>?g1,λx hx _ _ _=>PySem.W.mg_none_of X G (z.mem x hx),λx f h=>?g3,#[y1,y2,y3,y4],#[rfl,by decide +kernel,by decide,λf hf=>y7.mem f hf],λm f h=>?g5,λm f h=>?g6,λx f h=>?g7]
  case g1=>refine Each.look (l:=tg) (R:=λq:Str×Nv.C=>∃u v,mg q.1=some u/\RelV v u/\∀W':Wd,TU g W'->∀H own bor,AF W' H own bor q.2.bor v) ?_ h;unfold tg;exact(.cons #[_,.int 8,mg_of X G g0,#[_,rfl],λW' _ H _ _=>(show A5 W' H (.int 8) _ from Aa.mpr rfl)] (.cons #[_,.int 3,mg_of X G g1,#[_,rfl],λW' _ H _ _=>(show A5 W' H (.int 3) _ from Aa.mpr rfl)] (.cons #[_,.int 24,mg_of X G g2,#[_,rfl],λW' _ H _ _=>(show A5 W' H (.int 24) _ from Aa.mpr rfl)] (.cons #[_,.int 40,mg_of X G g3,#[_,rfl],λW' _ H _ _=>(show A5 W' H (.int 40) _ from Aa.mpr rfl)] (.cons #[_,.int 40,mg_of X G g4,#[_,rfl],λW' _ H _ _=>(show A5 W' H (.int 40) _ from Aa.mpr rfl)] (.cons #[_,.int 11,mg_of X G g5,#[_,rfl],λW' _ H _ _=>(show A5 W' H (.int 11) _ from Aa.mpr rfl)] (.cons #[_,.int 4,mg_of X G g6,#[_,rfl],λW' _ H _ _=>(show A5 W' H (.int 4) _ from Aa.mpr rfl)] (.cons #[_,.ref aL,mg_of X G gL,rfl,λW' B H _ _=>#[aL,Pz W'.w kt0 T kt1 S kt2 O kt3 N kt4 M kt5 L kt6 J Z I,rfl,.inr #[_,by rw[<-B.K];exact zL,#[rfl,rfl,rfl],ep,by rw[<-B.w]],SG sL]] (.cons (let⟨v,r1,r2⟩:=Ig 9 zT0;#[_,v,mg_of X G gT0,r1,λW' B H _ _=>r2 W' H B.K.symm]) (.cons (let⟨v,r1,r2⟩:=Ig 9 zT1;#[_,v,mg_of X G gT1,r1,λW' B H _ _=>r2 W' H B.K.symm]) .nil))))))))))
  case g3=>refine Each.look (l:=tf) (R:=λq:Str×Nat=>mg q.1=some (.ref (fl.getD q.2 0))/\q.2 < 83/\Hd fns q.2=false) ?_ h;unfold tf;show Each _ (_::_);repeat first|exact .nil|refine .cons (Yp X G (by assumption) (by decide) (by kernel_rfl)) ?_
  case g5=>refine Each.look (l:=tm) (R:=λq:Str×Nat=>q.1∉tl/\Meth K j q.1 (fl.getD q.2 0)/\q.2 < 83/\Hd fns q.2=false) ?_ h;unfold tm;repeat first|exact .nil|refine .cons (U5 (by assumption) #[] (by decide) (by kernel_rfl)) ?_
  case g6=>refine Each.look (l:=tu) (R:=λq:Str×Nat=>q.1∉tl/\Meth K j q.1 (fl.getD q.2 0)/\q.2 < 83/\Hd fns q.2=true) ?_ h;unfold tu;exact .cons (U5 Y #[] (by decide) (by kernel_rfl)) .nil
  case g7=>refine Each.look (l:=tc) (R:=λq:Str×Nat=>mg q.1=some (.ref j)/\Mk K j (fl.getD q.2 0)/\q.2 < 83/\Hd fns q.2=true) ?_ h;unfold tc;exact .cons #[mg_of X G hC,#[y5,y.m.1,y.m.2,y6],by decide,by kernel_rfl] .nil
 refine#[FD 68,λs v=>?b,λbase hb hn hB=>?F]
 case b=>
  rintro⟨_,_,_,_,_,_,_,_,_,ed,_⟩:t.l.ex;rw[eL,ed];exact .of_eq rfl
 case F=>
  have good:Good K mg c0 g g base:=#[#[rfl,rfl,rfl,rfl,rfl,λ_ z=>z,λ_ _ _ z=>z],hb,λ_ _ _ z=>.inl z,λq hq=>by cases mE hq;exact hB (r,n) mS];exact(Xb (P:=l.prog) rfl Gb (by decide) (by simp[g]) Zn D (k:=97) good (f:=68) (by decide) (by kernel_rfl)).imp λvs H Q E z=>SK (W:=g) (ts:=[(r,n)]) (λq hq=>by cases mE hq;exact#[_,mS,rfl]) rfl hlaw vs H Q E z
end Lk17
abbrev _root_.sP(x:Nv.P):Option Nv.C:=some (.p x)
abbrev _root_.sL(o:Bool)(x:List Nv.P):Option Nv.C:=some (.lst o x)
abbrev _root_.sI(x:Int):Option Nv.C:=some (.p (.int x))
abbrev _root_.aS(i:Nat)(t:Nv.T):Nv.S:=.asg (.nm i) t
abbrev _root_.fR(i:Nat)(t:Nv.T)(b:List Nv.S):Nv.S:=.Dj (.nm i) Nv.DQ t b
abbrev _root_.fW(i:Nat)(t:Nv.T)(b:List Nv.S):Nv.S:=.Dj (.nm i) Nv.AM t b
abbrev _root_.mO(a b:Nv.T):Nv.T:=.A1 (Nv.Aw Nv.Du) a b
abbrev _root_.dO(a b:Nv.T):Nv.T:=.A1 (Nv.Aw Nv.EB) a b
abbrev _root_.aP(i:Nat)(t:Nv.T):Nv.S:=.Ce i true (Nv.EL Nv.LK) [t]
abbrev _root_.tN:Nv.T:=.cst (.p .AG)
abbrev _root_.rf:Nv.S:=.ret (.cst (.p (.bl false)))
abbrev _root_.rF:List Nv.S:=[rf]
abbrev _root_.rT:List Nv.S:=[.ret (.cst (.p (.bl true)))]
abbrev _root_.rN:Nv.S:=.ret tN
theorem _root_.tI{x:Option Nv.C}{a b:Int}(h:x=some (.p (.int a)))(e:a=b):x=some (.p (.int b)):=e▸h
abbrev _root_.sS(x:PySem.Str):Option Nv.C:=some (.p (.str x))
local macro_rules
|`({$x:num})=>`(Nv.T.var $x)
|`({$x:num,0})=>`(Nv.T.cst (.p (.int $x)))
|`({$x:num,$y:num,0})=>`(Nv.T.A1 Nv.Ae (.var $x) (.cst (.p (.int $y))))
|`({$x:str})=>`(Nv.T.cst (.p (.str $x)))
|`(#[])=>`(by decide)
|`(#[$x:num])=>do let f:=Lean.mkIdent `Nv.AA;let i:=Lean.mkIdent `i;`($f ($i:ident:=$x) rfl rfl)
|`(#[$x,$y,$xs,*])=>`(⟨$x,$y,$xs,*⟩)
|`(#[$h])=>do let f:=Lean.mkIdent `Nv.d2;`($f rfl rfl $h)
|`($k<<<$b>>>$r)=>do let f:=Lean.mkIdent `Nv.cN;`(Nv.execs ($f $k) Nv.As $b $r)
|`($k|||$t&&&$r)=>do let f:=Lean.mkIdent `Nv.cN;`((Nv.den ($f $k) $t).v $r)
namespace Lk17
open PySem Nv
def B1:List S:=[(.ret (.or (.A1 Bd {1} {2}) (.A1 Nu {2} (.Bq 76 {0} [{1}]))))]
def B2:List S:=[(.R8 (.A1 Eo {2} {3}) [(aS 2 (.A1 Ae (.comp (.nm 1) AM (.Bq 75 {0} [{2}]) [(.call 1 [{2},{1},{3}])] {1} [none,none,some 0,some 3]) {0,0})),(aS 1 (.tup [{"elder"},{2},{1}]))]),(.CG 1)]
def B3:List S:=[(.Dj (.tup [4,5]) J0 {1} [(.ifs (.and (.A1 E6 {5} tN) (.and (.A1 Bd {5,1,0} {3}) (.call 1 [{0},{5,0,0},{2}]))) [(.ret (.call 2 [{0},(.tup [{"given"},{4}]),{5,0,0},{2}]))] [])]),rN]
noncomputable def B4:List S:=[(.ifs (.Ak (FN .int) {3}) [(.ret (.call 3 [{0},{1},{2},{3}]))] []),(aS 4 (.Bq 79 {0} [{2},{3,0,0}])),(.ifs (.A1 Fw {4} tN) [rN] []),(aS 5 (.lst [])),(.Dj (.tup [6,7]) Jh (.A1 Gv (.Bq 81 {0} [{4}]) (.A1 M7 {3} {1,0})) [(aS 8 (.ite (.A1 Fw {6} tN) tN (.call 4 [{0},{1},{6},{7}]))),(.ifs (.and (.A1 E6 {6} tN) (.A1 Fw {8} tN)) [rN] []),(aP 5 {8})]),(.ret (.tup [{"house"},{4},(.Ak Jo {5})]))]
def B5:List S:=[(.ret (.call 4 [{0},(.lst []),{1},{2}]))]
def B6:List S:=[(.ifs (.not (.Ak (FN .str) {0})) rF []),(.ifs (.or (.A1 L7 (.Ak AD {0}) {1,0}) (.A1 Ny (.Ak AD {0}) {8,0})) rF []),(.ret (.Ak Ff (.comp (.nm 1) AM {0} [] (.Tu Lb Lb {"a"} {1} {"z"}) [none,none])))]
def B7:List S:=[(.ret (.and (.Ak (FN .int) {0}) (.not (.Ak (FN .bool) {0}))))]
def B8:List S:=[(.ret (.and (.call 7 [{0}]) (.A1 ZD {0} {0,0})))]
def B9:List S:=[(.ifs (.not (.Ak (FN .tuple) {0})) rF []),(.ifs (.or (.A1 L7 (.Ak AD {0}) {1,0}) (.A1 Ny (.Ak AD {0}) (.A1 Ad {1,0} {3,0}))) rF []),(.ret (.call 6 [{0,0,0}]))]
noncomputable def i8:List S:=[(aS 1 (.lst [{0}])),(aS 2 {0,0}),(.R8 {1} [(aS 2 (.A1 Ad {2} {1,0})),(.ifs (.A1 Ny {2} {24,0}) rF []),(.pop (some 3) 1),(.ifs (.call 9 [{3}]) [(.Ce 1 true (EL IY) [(.A1 M7 {3} {1,0})])] [(.ifs (.not (.call 8 [{3}])) rF [])])]),(.ret (.cst (.p (.bl true))))]
def i7:List S:=[(aS 1 (.lst [])),(aS 2 (.lst [{0}])),(.R8 {2} [(.pop (some 3) 2),(aP 1 {3}),(.ifs (.Ak (FN .tuple) {3}) [(.Ce 2 true (EL IY) [(.Ak Py (.A1 M7 {3} {1,0}))])] [])]),(.CG 1)]
def i6:List S:=[(aS 1 (.Ak (λ_=>some (.Bl true [])) tN)),(fW 2 (.call 11 [{0}]) [(.ifs (.Ak (FN .int) {2}) [(.Ce 1 false (Dt λc x k=>Dq c k x) [(.cst (.p (.bl true))),{2}])] [])]),(.ret (.Ak CP {1}))]
noncomputable def i5:List S:=[(.ifs (.not (.Ak (FN .str) {0})) rF []),(.ifs (.or (.A1 L7 (.Ak AD {0}) {1,0}) (.A1 Ny (.Ak AD {0}) {8,0})) rF []),(.ret (.and (.Tu Lb Lb {"A"} {0,0,0} {"Z"}) (.Ak Ff (.comp (.nm 1) AM (.A1 M7 {0} {1,0}) [] (.Tu Lb Lb {"a"} {1} {"z"}) [none,none]))))]
def i4:List S:=[(.ret (.and (.call 7 [{0}]) (.A1 L7 (.Ak (He TQ) {0}) (.A1 (Aw JH) {10,0} {60,0}))))]
def i0:List S:=[(.ret (.and (.Ak (FN .tuple) {0}) (.A1 Lb (.Ak AD {0}) {3,0})))]
def hX:List S:=[(.ret (.and (.call 15 [{0}]) (.Ak Ff (.comp (.nm 1) AM {0} [] (.app 2 [{1}]) [none,none,some 1]))))]
def hV:List S:=[(.ret (.and (.call 16 [{0},(.cst (.p (.fn 6 [])))]) (.A1 Bd (.Ak L9 {0}) (.Ak AD {0}))))]
def gZ:List S:=[(.ret (.and (.Ak (FN .tuple) {0}) (.Tu Lb Lb {1,0} (.Ak AD {0}) {4,0})))]
def gY:List S:=[(.ret (.and (.Ak (FN .tuple) {0}) (.and (.A1 Ny (.Ak AD {0}) {0,0}) (.Ak (FN .str) {0,0,0}))))]
noncomputable def gX:List S:=[(.ifs (.not (.call 19 [{0}])) rF []),(aS 1 {0,0,0}),(.ifs (.A1 Bd {1} {"number"}) [(.ret (.and (.A1 Bd (.Ak AD {0}) {2,0}) (.call 14 [{0,1,0}])))] []),(.ifs (.A1 Bd {1} {"name"}) [(.ret (.and (.A1 Bd (.Ak AD {0}) {2,0}) (.call 6 [{0,1,0}])))] []),(.ifs (.A1 Eo (.Ak AD {0}) {3,0}) rF []),(.ifs (.A1 Bd {1} {"form"}) [(.ret (.and (.call 13 [{0,1,0}]) (.call 15 [{0,2,0}])))] []),(.ifs (.A1 Bd {1} {"call"}) [(.ret (.and (.call 6 [{0,1,0}]) (.call 15 [{0,2,0}])))] []),(.ret (.and (.A1 Bd {1} {"case"}) (.and (.call 18 [{0,2,0}]) (.Ak Ff (.comp (.nm 1) AM {0,2,0} [] (.call 20 [{1}]) [none,none])))))]
def gW:List S:=[(.ifs (.or (.A1 Bd {0,0,0} {"form"}) (.A1 Bd {0,0,0} {"call"})) [(.ret (.Ak CP {0,2,0}))] []),(.ifs (.A1 Bd {0,0,0} {"case"}) [(.ret (.A1 Ad (.lst [{0,1,0}]) (.comp (.nm 1) AM {0,2,0} [] {1,2,0} [none,none])))] []),(.ret (.lst []))]
noncomputable def gV:List S:=[(aS 1 (.lst [(.tup [{0},{0,0}])])),(aS 2 {0,0}),(.R8 {1} [(aS 2 (.A1 Ad {2} {1,0})),(.pop (some 3) 1),(aS 4 {3,0,0}),(aS 5 {3,1,0}),(.ifs (.or (.A1 Ny {2} {40,0}) (.or (.A1 Ny {5} {11,0}) (.not (.call 21 [{4}])))) rF []),(.Ce 1 true (EL IY) [(.comp (.nm 1) AM (.call 22 [{4}]) [] (.tup [{1},(.A1 Ad {2} {1,0})]) [none,none,some 5])])]),(.ret (.cst (.p (.bl true))))]
def gU:List S:=[(.ret (.and (.call 10 [{0}]) (.Ak Ff (.comp (.nm 1) AM (.call 12 [{0}]) [] (.A1 L7 {1} {2}) [none,none,some 1]))))]
def gS:List S:=[(.ret (.Ki 16 {0} 83 [1]))]
def gR:List S:=[(.ifs (.or (.not (.Ak (FN .tuple) {0})) (.A1 Eo (.Ak AD {0}) {2,0})) rF []),(.ret (.and (.call 13 [{0,0,0}]) (.call 25 [{0,1,0},{1}])))]
noncomputable def gQ:List S:=[(aS 1 {0,2,0}),(.ifs (.or (.not (.call 6 [{0,1,0}])) (.or (.not (.call 7 [{1}])) (.or (.A1 L7 {1} {0,0}) (.A1 Ny {1} {3,0})))) rF []),(.ret (.and (.call 18 [{0,3,0}]) (.Ak Ff (.comp (.nm 1) AM {0,3,0} [] (.call 26 [{1},{2}]) [none,none,some 1]))))]
def gO:List S:=[(.ret (.and (.call 6 [{0,1,0}]) (.and (.call 6 [{0,2,0}]) (.and (.call 25 [{0,3,0},{1,0}]) (.call 24 [{0,4,0},{1,0}])))))]
def gN:List S:=[(.ret (.or (.A1 Fw {0} tN) (.call 6 [{0}])))]
def gM:List S:=[(.ret (.and (.Ak Ff (.comp (.nm 1) AM (.XF Vw {0} {1,0} (.Ak (He Nb) {2,0})) [] (.call 6 [{1}]) [none,none])) (.and (.call 17 [(.A1 Ae {0} (.Ak (He Nb) {2,0}))]) (.call 23 [(.A1 Ae {0} (.Ak (He Nb) {1,0}))]))))]
noncomputable def dU:List S:=[(.ifs (.or (.not (.call 19 [{0}])) (.A1 Eo (.A1 Ey (.cst (.Bl false SH)) {0,0,0}) (.Ak AD {0}))) rF []),(aS 1 {0,0,0}),(.ifs (.A1 Bd {1} {"kind"}) [(.ret (.call 27 [{0}]))] []),(.ifs (.A1 Bd {1} {"class"}) [(.ret (.and (.call 6 [{0,1,0}]) (.call 16 [{0,2,0},(.cst (.p (.fn 6 [])))])))] []),(.ifs (.A1 Bd {1} {"deed"}) [(.ret (.call 28 [{0}]))] []),(.ifs (.A1 Bd {1} {"house"}) [(.ret (.and (.call 6 [{0,1,0}]) (.and (.call 6 [{0,2,0}]) (.call 16 [{0,3,0},(.cst (.p (.fn 29 [])))]))))] []),(.ifs (.A1 Bd {1} {"ask"}) [(.ret (.call 23 [{0,1,0}]))] []),(.ret (.call 30 [{0}]))]
def gK:List S:=[(.ifs (.or (.not (.Ak (FN .list) {0})) (.A1 Ny (.Ak AD {0}) {40,0})) [.no] []),(.Dj (.tup [1,2]) J0 {0} [(.ifs (.not (.call 31 [{2}])) [.no] [])]),(.ret (.Ak CP {0}))]
noncomputable def gJ:List S:=[(aS 1 {0,0,0}),(.ifs (.A1 Bd {1} {"kind"}) [(.ret (.A1 Ad (.lst [(.tup [{"kind"},{0,1,0}])]) (.comp (.nm 1) AM {0,3,0} [] (.tup [{"form"},{1,0,0}]) [none,none])))] []),(.ifs (.A1 Bd {1} {"class"}) [(.ret (.lst [(.tup [{"class"},{0,1,0}])]))] []),(.ifs (.or (.A1 Bd {1} {"deed"}) (.A1 Bd {1} {"def"})) [(.ret (.lst [(.tup [{"function"},{0,1,0}])]))] []),(.ifs (.A1 Bd {1} {"once"}) [(.ret (.lst [(.tup [{"once"},{0,1,0}])]))] []),(.ifs (.A1 Bd {1} {"house"}) [(.ret (.lst [(.tup [{"house"},{0,1,0},{0,2,0}])]))] []),(.ifs (.A1 Bd {1} {"does"}) [(.ret (.lst [(.tup [{"does"},{0,1,0},{0,2,0},{0,3,0}])]))] []),(.ret (.lst []))]
noncomputable def cM:List S:=[(aS 0 (.Ak (λ_=>some (.Bl true [])) tN)),(fW 1 (.cst (.p (.tup [(.tup [(.str "kind"),(.str "whole"),(.int 0),(.tup [])]),(.tup [(.str "kind"),(.str "truth"),(.int 0),(.tup [(.tup [(.str "No"),(.tup [])]),(.tup [(.str "Yes"),(.tup [])])])])]))) [(fW 2 (.call 33 [{1}]) [(.Ce 0 false (Dt λc x k=>Dq c k x) [(.cst (.p (.bl true))),{2}])])]),(fW 3 (.cst (.p (.tup [(.str "plus"),(.str "minus"),(.str "under")]))) [(.Ce 0 false (Dt λc x k=>Dq c k x) [(.cst (.p (.bl true))),(.tup [{"function"},{3}])])]),(.CG 0)]
def gI:List S:=[(aS 1 (.call 34 [])),(.Dj (.tup [2,3]) J0 {0} [(fW 4 (.call 33 [{3}]) [(.ifs (.A1 Nu {4} {1}) [(.CG 2)] []),(.Ce 1 false (Dt λc x k=>Dq c k x) [(.cst (.p (.bl true))),{4}])])]),rN]
def gH:List S:=[(.ifs (.A1 Bd {0,0,0} {"deed"}) [(.ret (.A1 Ad (.Ak CP {0,3,0}) (.lst [{0,4,0}])))] []),(aS 1 (.lst [])),(.ifs (.A1 Bd {0,0,0} {"kind"}) [(fW 2 {0,3,0} [(.Ce 1 true (EL IY) [{2,1,0}])])] []),(.CG 1)]
def gG:List S:=[(aS 1 (.lst [])),(fW 2 (.call 36 [{0}]) [(.Ce 1 true (EL IY) [(.comp (.nm 1) AM (.call 11 [{2}]) [(.Ak (FN .tuple) {1})] {1} [none,none])])]),(.CG 1)]
def gE:List S:=[(.ifs (.A1 Bd {0,0,0} {"house"}) [(.ret (.lst [{0,2,0}]))] []),(.ret (.comp (.nm 1) AM (.call 37 [{0}]) [] {1,0,0} [none,none]))]
noncomputable def gD:List S:=[(.ifs (.A1 Bd {0,0,0} {"class"}) [(.ret (.Ak CP {0,2,0}))] []),(.ifs (.A1 Bd {0,0,0} {"deed"}) [(.ret (.lst [{0,2,0}]))] []),(.ifs (.A1 Bd {0,0,0} {"house"}) [(.ret (.A1 Ad (.lst [{0,1,0}]) (.comp (.nm 1) AM {0,3,0} [(.A1 E6 {1} tN)] {1} [none,none])))] []),(.ret (.lst []))]
noncomputable def gC:List S:=[(.ifs (.A1 Bd {1,0,0} {"once"}) [(.ret (.A1 Fw (.Bq 77 {0} [{1,1,0}]) tN))] []),(.ifs (.A1 Eo {1,0,0} {"does"}) rF []),(aS 2 (.Bq 77 {0} [{1,3,0}])),(.ret (.or (.A1 Fw (.Bq 79 {0} [{1,1,0},{1,2,0}]) tN) (.or (.A1 Fw {2} tN) (.A1 Eo {2,0,0} {1,1,0}))))]
noncomputable def gB:List S:=[(.ifs (.Ak anyC (.comp (.nm 1) AM (.call 38 [{1}]) [] (.A1 Fw (.Bq 72 {2} [{1}]) tN) [none,none,some 0])) rT []),(.ifs (.Ak anyC (.comp (.nm 1) AM (.call 39 [{1}]) [] (.A1 Fw (.Bq 75 {2} [{1}]) tN) [none,none,some 0])) rT []),(.ret (.call 40 [{0},{1}]))]
noncomputable def dR:List S:=[(.ifs (.A1 Bd {1,0,0} {"house"}) [(.ret (.A1 Eo (.Ak AD {1,3,0}) (.Bq 72 {0} [{1,2,0}])))] []),(.ifs (.A1 Bd {1,0,0} {"once"}) [(.ret (.A1 Eo (.Ak AD {1,2,0}) (.Ak AD (.A1 Ae (.Bq 77 {0} [{1,1,0}]) {1,0}))))] []),(.ifs (.A1 Bd {1,0,0} {"does"}) [(.ret (.A1 Eo (.Ak AD {1,4,0}) (.Ak AD (.A1 Ae (.Bq 77 {0} [{1,3,0}]) {1,0}))))] []),(.ret (.Ak anyC (.comp (.nm 1) AM (.call 37 [{1}]) [] (.A1 Eo (.A1 (Aw ET) (.Ak AD {1}) {1,0}) (.Bq 72 {2} [{1,0,0}])) [none,none,some 0])))]
def gA:List S:=[(.ret (.and (.A1 Bd {1,0,0} {"class"}) (.A1 Nu {1,1,0} (.Bq 76 {0} [{1,1,0}]))))]
def gz:List S:=[(.ret (.and (.A1 Bd {1,0,0} {"deed"}) (.not (.Ak anyC (.comp (.nm 1) AM (.call 36 [{1}]) [] (.call 12 [{1}]) [none,none])))))]
def gy:List S:=[(.ifs (.A1 Eo {1,0,0} {"house"}) rF []),(aS 2 (.Bq 79 {0} [{1,1,0},{1,2,0}])),(.ret (.Ak anyC (.comp (.nm 1) AM (.Bq 78 {0} [{1,1,0}]) [] (.A1 Fw (.Bq 82 {2} [{3},{1}]) tN) [none,none,some 0,some 2])))]
def gx:List S:=[(.ifs (.or (.A1 Fw {1} tN) (.A1 Bd {1} {2})) rT []),(.ret (.and (.A1 E6 {2} tN) (.A1 Nu {1} (.Bq 76 {0} [{2}]))))]
noncomputable def gw:List S:=[(.ifs (.A1 Eo {1,0,0} {"house"}) rF []),(fW 2 (.Bq 75 {0} [{1,1,0}]) [(aS 3 (.Bq 79 {0} [{2},{1,2,0}])),(.ifs (.A1 Fw {3} tN) rT []),(.ifs (.not (.Ak Ff (.comp (.tup [1,2]) Jh (.A1 Gv (.Bq 81 {0} [{3}]) {1,3,0}) [] (.call 46 [{3},{1},{2}]) [none,none,none,some 0]))) rT [])]),rf]
def gv:List S:=[(.Dj (.tup [2,3]) J0 (.Bq 71 {0} []) [(.ifs (.app 1 [{0},{3}]) [(.CG 2)] [])]),rN]
noncomputable def gu:List S:=[(aS 1 (.call 35 [(.Bq 71 {0} [])])),(.ifs (.A1 E6 {1} tN) [.no] []),(aS 1 (.call 48 [{0},(.cst (.p (.fn 41 [])))])),(.ifs (.A1 E6 {1} tN) [.no] []),(aS 1 (.call 48 [{0},(.cst (.p (.fn 42 [])))])),(.ifs (.A1 E6 {1} tN) [.no] []),(aS 1 (.call 48 [{0},(.cst (.p (.fn 43 [])))])),(.ifs (.A1 E6 {1} tN) [.no] []),(aS 1 (.call 48 [{0},(.cst (.p (.fn 44 [])))])),(.ifs (.A1 E6 {1} tN) [.no] []),(aS 1 (.call 48 [{0},(.cst (.p (.fn 45 [])))])),(.ifs (.A1 E6 {1} tN) [.no] []),(aS 1 (.call 48 [{0},(.cst (.p (.fn 47 [])))])),(.ifs (.A1 E6 {1} tN) [.no] [])]
noncomputable def dQ:List S:=[(aS 2 {0,0}),(.ifs (.A1 L7 {1} (.Ak AD {0})) [(aS 2 (mO (.A1 Ae {0} {1}) {2147483629,0}))] []),(.ret (mO (.A1 mulC (.A1 Ad (.A1 Ad (.A1 Ad (.A1 mulC {2} {2}) (.A1 mulC {3,0} {2})) (.A1 mulC (.A1 mulC {5,0} {1}) {1})) {17,0}) {69621,0}) {2147483647,0}))]
noncomputable def gr:List S:=[(aS 2 {"abcdefghijklmnopqrstuvwxyz"}),(aS 3 (mO {0} (.A1 (Aw ET) {27,0} {1}))),(aS 0 (dO {0} {27,0})),(aS 4 {""}),(fR 5 (mO {0} {8,0}) [(aS 4 (.A1 Ad {4} (.A1 Ae {2} (mO (dO (.A1 mulC {0} (.A1 Ad {5} {3,0})) {7,0}) {26,0}))))]),(aS 6 (mO (dO {0} {8,0}) (.A1 Ad (.Ak AD {4}) {1,0}))),(aS 7 (.lst [])),(fR 5 {1} [(aP 7 (.A1 Ad (.A1 Ad (.A1 Ou {4} {6}) (.A1 Ae {2} (.A1 Ad {3} {5}))) (.A1 M7 {4} {6})))]),(fW 8 (.lst [{"whole"},{"truth"},{"plus"},{"minus"},{"under"}]) [(.ifs (.A1 Nu {8} {7}) [(.ret (.Ak CP (.XF Vw {2} {3} (.A1 Ad {3} {1}))))] [])]),(.CG 7)]
noncomputable def dP:List S:=[(aS 2 {"abcdefghijklmnopqrstuvwxyz"}),(aS 3 (.Ak Ga {2})),(aS 4 (mO {0} (.A1 (Aw ET) {27,0} {1}))),(aS 5 {""}),(fR 6 (mO (dO {0} {27,0}) {7,0}) [(aS 5 (.A1 Ad {5} (.A1 Ae {2} (mO (dO (.A1 mulC {0} (.A1 Ad {6} {5,0})) {11,0}) {26,0}))))]),(aS 7 (.comp (.nm 1) DQ {1} [] (.A1 Ad (.A1 Ae {3} (.A1 Ad {4} {1})) {2}) [none,none,some 5,some 3,some 4])),(.ifs (.A1 Bd (mO (dO {0} {200,0}) {2,0}) {1,0}) [(aS 8 (mO (dO {0} {400,0}) (.A1 Ad (.Ak AD {5}) {1,0}))),(aS 7 (.lst [])),(fR 6 {1} [(aS 9 (.A1 Ad (.A1 Ae {3} {4}) (.A1 Ou {5} {8}))),(aP 7 (.A1 Ad (.A1 Ad {9} (.A1 Ae {2} (.A1 Ad {4} {6}))) (.A1 M7 {5} {8})))])] []),(.ifs (.or (.A1 Nu {"No"} {7}) (.A1 Nu {"Yes"} {7})) [(.ret (.comp (.nm 1) DQ {1} [] (.A1 Ad {"X"} (.A1 Ae {3} (.A1 Ad {2} {1}))) [none,none,some 4,some 2]))] []),(.CG 7)]
noncomputable def cL:List S:=[(aS 4 (.A1 Ad (.A1 Ad (.lst [(.tup [{"whole"}]),(.tup [{"truth"}]),(.tup [{1,0,0}])]) (.Ak Ep {2})) (.Ak Ep {2}))),(aS 5 (mO {0} (.A1 Ad (.Ak AD {4}) {2,0}))),(.ifs (.or (.A1 L7 {5} (.Ak AD {4})) (.A1 Bd {3} {0,0})) [(.ret (.A1 Ae {4} (mO {5} (.Ak AD {4}))))] []),(.ifs (.A1 Bd {5} (.Ak AD {4})) [(.ret (.tup [{1,1,0},(.call 53 [(dO {0} {13,0}),{1},{2},(.A1 (Aw ET) {3} {1,0})])]))] []),(aS 6 (.call 53 [(dO {0} {13,0}),{1},{2},(.A1 (Aw ET) {3} {1,0})])),(.ret (.tup [{1,2,0},{6},(.call 53 [(dO {0} {177,0}),{1},{2},{0,0}])]))]
noncomputable def gq:List S:=[(aS 4 (.lst [(.tup [{"number"},(.A1 (Aw ET) (mO (dO {0} {5,0}) (.A1 (Aw JH) {10,0} {9,0})) (.A1 mulC {5,0} (.A1 (Aw JH) {10,0} {8,0})))])])),(aP 4 (.tup [{"form"},(.A1 Ae {2} (mO (dO {0} {5,0}) (.Ak AD {2}))),(.tup [])])),(aS 5 (.A1 Ae (.A1 Ad {3} (.lst [{"plus"}])) (mO (dO {0} {5,0}) (.A1 Ad (.Ak AD {3}) {1,0})))),(aP 4 (.tup [{"call"},{5},(.tup [(.tup [{"number"},{1,0}])])])),(fW 6 {1} [(aP 4 (.tup [{"name"},{6}]))]),(.ret (.A1 Ae {4} (mO {0} (.Ak AD {4}))))]
noncomputable def gp:List S:=[(aS 3 (.lst [])),(fR 4 {3,0} [(aS 5 (.lst [])),(fR 6 (.A1 Ad {1,0} (mO (dO {0} (.A1 Ad {4} {3,0})) {2,0})) [(aS 7 (.lst [])),(fR 8 (mO (dO {0} (.A1 Ad (.A1 Ad {4} {6}) {2,0})) {4,0}) [(aP 7 (.call 53 [(dO {0} (.A1 Ad (.A1 Ad (.A1 Ad (.A1 mulC {5,0} {4}) (.A1 mulC {7,0} {6})) (.A1 mulC {11,0} {8})) {2,0})),{1},{4},{1,0}]))]),(aP 5 (.tup [(.A1 Ae {2} (.A1 Ad (.A1 mulC {2,0} {4}) {6})),(.Ak Jo {7})]))]),(aP 3 (.tup [{"kind"},(.A1 Ae {1} {4}),{4},(.Ak Jo {5})]))]),(.CG 3)]
noncomputable def gn:List S:=[(.asg (.tup [2,3,4]) {1}),(aS 5 (.A1 Ae (.lst [(.tup []),(.tup [{2}])]) (mO {0} {2,0}))),(aS 6 (.A1 Ae (.lst [(.tup []),(.tup [{2}]),(.tup [{3}]),(.tup [{2},{3}]),(.tup [{3},{2}])]) (mO (dO {0} {2,0}) {5,0}))),(.ret (.lst [(.tup [{"class"},{2},(.tup [])]),(.tup [{"class"},{3},{5}]),(.tup [{"class"},{4},{6}])]))]
noncomputable def gm:List S:=[(aS 4 (.lst [])),(fR 5 (.A1 Ad {1,0} (mO {0} {3,0})) [(aS 6 (dO {0} (.A1 Ad {3,0} (.A1 mulC {4,0} {5})))),(aS 7 (.comp (.nm 1) DQ (mO {6} {4,0}) [] (.call 53 [(dO {3} (.A1 Ad {1} {2,0})),{2},{1,0},{1,0}]) [none,none,some 3,some 6])),(aS 8 (.call 53 [(dO {6} {7,0}),{3},{1,0},{1,0}])),(aS 9 (mO (dO {6} {11,0}) (.A1 Ad (.Ak AD {7}) {1,0}))),(.ifs (.A1 Bd {9} (.Ak AD {7})) [(aS 8 (.A1 Ae (.lst [{0,0},(.tup [{3,1,0},{0,0}])]) (mO (dO {6} {50,0}) {2,0})))] [(.Ce 7 false (Dt λc x k=>Dq c k x) [(.A1 Ae (.lst [{0,0},(.tup [{3,1,0},{0,0}])]) (mO (dO {6} {50,0}) {2,0})),{9}])]),(aP 4 (.tup [{"deed"},(.A1 Ae {1} {5}),(.A1 Ae {2} (mO (dO {6} {100,0}) {3,0})),(.Ak Jo {7}),{8}]))]),(.CG 4)]
noncomputable def gj:List S:=[(aS 5 (.lst [])),(fR 6 {1} [(aS 7 (mO (dO {0} (.A1 Ad (.A1 mulC {3,0} {6}) {1,0})) {5,0})),(aS 8 {2}),(.ifs (.A1 Bd {7} {1,0}) [(aS 8 {4,2,0})] []),(.ifs (.or (.A1 Bd {7} {2,0}) (.and (.A1 Bd {7} {3,0}) (.A1 Bd {3} (.tup [])))) [(aS 8 tN)] []),(aP 5 {8})]),(.ret (.Ak Jo {5}))]
noncomputable def gi:List S:=[(aS 4 (.lst [])),(fR 5 {4,0} [(aS 7 (.comp (.nm 1) DQ {3,0} [] (.A1 Ny (mO (dO {2} (.A1 Ad (.A1 Ad (.A1 mulC {7,0} {3}) (.A1 mulC {1} {1})) {1,0})) {3,0}) {0,0}) [none,none,some 0,some 5])),(fW 6 (.lst [{2,0},{1,0},{0,0}]) [(fW 8 (.A1 Ae (.A1 Ae {3} {6}) {2,0}) [(.ifs (.A1 Ae {7} {6}) [(.Ce 7 false (Dt λc x k=>Dq c k x) [(.cst (.p (.bl true))),(.A1 Dy {2} {8})])] [])])]),(aS 9 (.A1 Ae (.A1 Ad {1} (.lst [{"whole"}])) {5})),(fR 6 {3,0} [(.ifs (.A1 Ae {7} {6}) [(aS 10 (.call 58 [(dO {0} (.A1 Ad {5} {2,0})),(mO {5} {3,0}),(.A1 Ae {2} {6}),(.A1 Ae (.A1 Ae {3} {6}) {2,0}),{2}])),(aP 4 (.tup [{"house"},(.A1 Ae {2} {6}),{9},{10}]))] [])])]),(.CG 4)]
noncomputable def gh:List S:=[(aS 4 (.lst [])),(aS 5 (.comp (.nm 1) AM {1} [] {1,1,0} [none,none])),(fR 6 (.Ak AD {1}) [(.asg (.tup [7,8,9,10,11]) (.A1 Ae {1} {6})),(aS 12 (.A1 Ou (.tup [{"u"},{"v"},{"w"}]) (.Ak AD {10}))),(aS 13 (.A1 Bd (mO (dO {0} (.A1 Ad {6} {1,0})) {2,0}) {1,0})),(.ifs {13} [(aP 4 (.tup [{"once"},{8},{12},(.call 54 [(dO {0} {3,0}),{12},{3},{5}])]))] []),(fR 14 (.Ak AD {2}) [(aS 15 (.A1 Ae {2} {14})),(.ifs (.and (.A1 Bd {15,1,0} {9}) (.or (.not {13}) (.A1 Bd (mO (dO {0} (.A1 Ad {14} {2,0})) {2,0}) {1,0}))) [(aS 16 (.call 54 [(dO {0} (.A1 Ad {14} {3,0})),{12},{3},{5}])),(aP 4 (.tup [{"does"},{9},{15,2,0},{8},{12},{16}]))] [])])]),(.CG 4)]
def gg:List S:=[(aS 2 (.lst [])),(fW 3 {0} [(aS 1 (mO (.A1 Ad (.A1 mulC {1} {48271,0}) {3,0}) {2147483647,0})),(.Ce 2 true (Dt T3) [(mO {1} (.A1 Ad (.Ak AD {2}) {1,0})),{3}])]),(.CG 2)]
noncomputable def dN:List S:=[(aS 1 (.call 50 [{0},{0,0}])),(aS 2 (.call 51 [(.call 50 [{0},{1,0}]),{9,0}])),(aS 3 (.A1 Ou {2} {3,0})),(aS 4 (.XF Vw {2} {3,0} {6,0})),(aS 5 (.A1 M7 {2} {6,0})),(.ifs (.A1 Bd (mO {1} {3,0}) {1,0}) [(aS 4 (.lst [{2,2,0},{2,0,0},{2,1,0}])),(aS 5 (.lst [{2,1,0},{2,2,0},{2,0,0}]))] []),(aS 6 (.call 52 [(.call 50 [{0},{2,0}]),{6,0}])),(aS 7 (.call 56 [(.call 50 [{0},{3,0}]),{4}])),(aS 8 (.call 57 [(.call 50 [{0},{4,0}]),{5},{4},{3}])),(aS 9 (.call 59 [(.call 50 [{0},{5,0}]),{3},{4},{7}])),(aS 10 (.A1 Ad (.A1 Ad (.A1 Ad (.call 55 [(.call 50 [{0},{6,0}]),{3},{6}]) {7}) {8}) {9})),(aS 10 (.A1 Ad {10} (.call 60 [(.call 50 [{0},{7,0}]),{8},{9},{6}]))),(.ifs (.A1 Bd (mO (dO {1} {3,0}) {2,0}) {1,0}) [(aP 10 (.tup [{"ask"},(.call 54 [(dO {1} {6,0}),(.tup []),{6},(.A1 Ou {5} {1,0})])]))] []),(.ret (.call 61 [{10},(.call 50 [{0},{8,0}])]))]
noncomputable def cJ:List S:=[(aS 3 (mO {0} {6,0})),(.ifs (.or (.A1 L7 {3} {2,0}) (.and (.A1 Bd {2} {0,0}) (.A1 Eo {3} {2,0}))) [(.ret (.A1 Ae (.lst [(.tup [{"whole"}]),(.tup [{"truth"}])]) (mO {3} {2,0})))] []),(.ifs (.A1 Bd {3} {2,0}) [(.ret (.tup [{1,0,0}]))] []),(.ifs (.A1 L7 {3} {5,0}) [(.ret (.tup [{1,1,0},(.call 63 [(dO {0} {6,0}),{1},(.A1 (Aw ET) {2} {1,0})])]))] []),(.ret (.tup [{1,2,0},(.call 63 [(dO {0} {6,0}),{1},(.A1 (Aw ET) {2} {1,0})]),(.call 63 [(dO {0} {91,0}),{1},(.A1 (Aw ET) {2} {1,0})])]))]
def gf:List S:=[(aS 1 (.lst [{""},{""},{""}])),(fW 2 {0} [(.ifs (.A1 Bd {2,0,0} {"kind"}) [(.Ce 1 false (Dt λc x k=>Dq c k x) [{2,1,0},{2,2,0}])] [])]),(.CG 1)]
def gd:List S:=[(fR 3 (.Ak AD {0}) [(.ifs (.A1 Bd (.A1 Ou (.A1 Ae {0} {3}) {3,0}) (.tup [{"house"},{1},{2,0,0}])) [(.CG 3)] [])]),rN]
noncomputable def gb:List S:=[(.ifs (.or (.not (.Ak (FN .tuple) {1})) (.or (.A1 Eo (.Ak AD {1}) {3,0}) (.or (.A1 Eo {1,0,0} {"house"}) (.not (.Ak (FN .tuple) {1,2,0}))))) rF []),(.ifs (.or (.Ak (FN .bool) {1,1,0}) (.or (.A1 Eo {1,1,0} (.call 65 [{0},{2},{3}])) (.A1 Eo (.Ak AD {1,2,0}) (.A1 (Aw ET) (.Ak AD {3}) {1,0})))) rF []),(fR 4 (.Ak AD {1,2,0}) [(aS 5 (.A1 Ae (.A1 Ae (.A1 Ae {0} {1,1,0}) {3,0}) {4})),(.ifs (.A1 Fw {5} tN) [(.ifs (.A1 E6 (.A1 Ae {1,2,0} {4}) tN) rF [])] [(.ifs (.not (.call 66 [{0},(.A1 Ae {1,2,0} {4}),{5},(.A1 Ae {3} (.A1 Ad {4} {1,0}))])) rF [])])]),(.ret (.cst (.p (.bl true))))]
def g9:List S:=[(aS 3 (.call 65 [{0},{1},{2}])),(.ifs (.A1 Fw {3} tN) rT []),(.Dj (.tup [4,5]) Jh (.A1 Gv (.A1 Ae (.A1 Ae {0} {3}) {3,0}) (.A1 M7 {2} {1,0})) [(.ifs (.and (.A1 E6 {4} tN) (.call 67 [{0},{4},{5}])) rT [])]),rf]
noncomputable def g8:List S:=[(aS 1 (.call 62 [{0}])),(aS 2 (.call 64 [{1}])),(aS 3 (.comp (.nm 1) AM {1} [(.A1 Bd {1,0,0} {"class"})] {1,1,0} [none,none])),(aS 4 (.make 69 [(.Ak CP {1})])),(.Dj (.nm 5) KL (.A1 Gv {9,0} (.A1 (Aw Pl) {10,0} (.A1 (Aw Ph) {21,0} (.Ak AD {0})))) [(aS 6 (.call 63 [(.call 50 [{0},{5}]),{2},{3,0}])),(fW 7 {3} [(aS 8 (.call 5 [{4},{7},{6}])),(.ifs (.A1 Fw {8} tN) [(.ifs (.not (.call 67 [{1},{7},{6}])) rF [])] [(.ifs (.not (.call 66 [{1},{8},{7},{6}])) rF [])])])]),(.ret (.A1 Bd (.Bq 71 {4} []) {1}))]
noncomputable def fZ:List S:=[(.Ce 0 false (EL (FI 0)) [(.call 32 [{1}])]),(.Ce 0 false (EL (FI 1)) [(.Ak (λ_=>some (.Bl true [])) tN)]),(.Ce 0 false (EL (FI 2)) [(.Ak (λ_=>some (.Bl true [])) tN)]),(fW 2 (.cst (.p (.tup [(.tup [(.str "kind"),(.str "whole"),(.int 0),(.tup [])]),(.tup [(.str "kind"),(.str "truth"),(.int 0),(.tup [(.tup [(.str "No"),(.tup [])]),(.tup [(.str "Yes"),(.tup [])])])])]))) [(.HS 0 70 [{2}])]),(.Dj (.tup [3,2]) J0 (.Ak (DB 0) {0}) [(.HS 0 70 [{2}]),(fW 4 (.call 33 [{2}]) [(.Ce 0 false (Dt (Bz 2)) [{3},{4}])])]),(.expr (.call 49 [{0}]))]
def fX:List S:=[(fW 2 (.call 33 [{1}]) [(.Ce 0 false (Dt (Bz 1)) [{1},{2}])])]
def fV:List S:=[(.ret (.Ak CP (.Ak (DB 0) {0})))]
def fU:List S:=[(aS 2 (.A1 Ey (.Ak (DB 1) {0}) (.tup [{"kind"},{1}]))),(.ret (.ite (.A1 Fw {2} tN) tN {2,2,0}))]
def fT:List S:=[(aS 2 (.A1 Ey (.Ak (DB 1) {0}) (.tup [{"class"},{1}]))),(.ret (.ite (.A1 Fw {2} tN) tN (.Ak CP {2,2,0})))]
noncomputable def fS:List S:=[(aS 2 (.Bq 75 {0} [{1}])),(.ifs (.A1 Fw {2} tN) [rN] []),(aS 3 (.Ak (λ_=>some (.Bl true [])) tN)),(.R8 {2} [(.pop (some 4) 2),(.ifs (.A1 JP {4} {3}) [(.Ce 3 false (Dt λc x k=>Dq c k x) [(.cst (.p (.bl true))),{4}]),(.Ce 2 true (EL IY) [(.Bq 75 {0} [{4}])])] [])]),(.ret (.comp (.nm 1) AM (.Ak (DB 0) {0}) [(.and (.A1 Bd {1,0,0} {"class"}) (.A1 Nu {1,1,0} {2}))] {1,1,0} [none,none,some 3]))]
def fQ:List S:=[(aS 2 (.A1 Ey (.Ak (DB 1) {0}) (.tup [{"function"},{1}]))),(.ifs (.or (.A1 Fw {2} tN) (.A1 Eo {2,0,0} {"deed"})) [rN] []),(.ret (.tup [{2,2,0},{2,3,0},{2,4,0}]))]
def fO:List S:=[(.ifs (.A1 JP (.tup [{"class"},{1}]) (.Ak (DB 1) {0})) [rN] []),(.ret (.comp (.nm 1) AM (.Ak (DB 0) {0}) [(.and (.A1 Bd {1,0,0} {"deed"}) (.A1 Bd {1,2,0} {2}))] {1,1,0} [none,none,some 1]))]
def fM:List S:=[(.ret (.A1 Ey (.Ak (DB 2) {0}) (.tup [{"house"},{1},{2}])))]
def fL:List S:=[(.ifs (.or (.A1 L7 {1} {0,0}) (.A1 ZD {1} (.Ak AD (.Ak (DB 0) {0})))) [rN] []),(aS 2 (.A1 Ae (.Ak (DB 0) {0}) {1})),(.ret (.ite (.A1 Bd {2,0,0} {"house"}) {2} tN))]
def fJ:List S:=[(aS 2 (.Bq 80 {0} [{1}])),(.ret (.ite (.A1 Fw {2} tN) tN {2,3,0}))]
noncomputable def fI:List S:=[(aS 3 (.Bq 80 {0} [{1}])),(.ifs (.or (.A1 Fw {3} tN) (.A1 JP {2} (.Bq 78 {0} [{3,1,0}]))) [rN] []),(aS 4 (.A1 Ey (.Ak (DB 2) {0}) (.tup [{"does"},{3,1,0},{3,2,0},{2}]))),(.ret (.ite (.A1 Fw {4} tN) (.A1 Ey (.Ak (DB 2) {0}) (.tup [{"once"},{2}])) {4}))]
noncomputable def FT:List (Nat×LN):=[(1,#[3,3,false,B1]),(2,#[4,4,false,B2]),(3,#[4,6,false,B3]),(4,#[4,9,false,B4]),(5,#[3,3,false,B5]),(6,#[1,1,false,B6]),(7,#[1,1,false,B7]),(8,#[1,1,false,B8]),(9,#[1,1,false,B9]),(10,#[1,4,false,i8]),(11,#[1,4,false,i7]),(12,#[1,3,false,i6]),(13,#[1,1,false,i5]),(14,#[1,1,false,i4]),(15,#[1,1,false,i0]),(16,#[2,2,false,hX]),(17,#[1,1,false,hV]),(18,#[1,1,false,gZ]),(19,#[1,1,false,gY]),(21,#[1,2,false,gX]),(22,#[1,1,false,gW]),(23,#[1,6,false,gV]),(24,#[2,2,false,gU]),(25,#[2,2,false,gS]),(26,#[2,2,false,gR]),(27,#[1,2,false,gQ]),(28,#[1,1,false,gO]),(29,#[1,1,false,gN]),(30,#[1,1,false,gM]),(31,#[1,2,false,dU]),(32,#[1,3,false,gK]),(33,#[1,2,false,gJ]),(34,#[0,4,false,cM]),(35,#[1,5,false,gI]),(36,#[1,3,false,gH]),(37,#[1,3,false,gG]),(38,#[1,1,false,gE]),(39,#[1,1,false,gD]),(40,#[2,3,false,gC]),(41,#[2,2,false,gB]),(42,#[2,2,false,dR]),(43,#[2,2,false,gA]),(44,#[2,2,false,gz]),(45,#[2,3,false,gy]),(46,#[3,3,false,gx]),(47,#[2,4,false,gw]),(48,#[2,4,false,gv]),(49,#[1,2,false,gu]),(50,#[2,3,false,dQ]),(51,#[2,9,false,gr]),(52,#[2,10,false,dP]),(53,#[4,7,false,cL]),(54,#[4,7,false,gq]),(55,#[3,9,false,gp]),(56,#[2,7,false,gn]),(57,#[4,10,false,gm]),(58,#[5,9,false,gj]),(59,#[4,11,false,gi]),(60,#[4,17,false,gh]),(61,#[2,4,false,gg]),(62,#[1,11,false,dN]),(63,#[3,4,false,cJ]),(64,#[1,3,false,gf]),(65,#[3,4,false,gd]),(66,#[4,6,false,gb]),(67,#[3,6,false,g9]),(68,#[1,9,false,g8]),(69,#[2,5,true,fZ]),(70,#[2,3,true,fX]),(71,#[1,1,false,fV]),(72,#[2,3,false,fU]),(75,#[2,3,false,fT]),(76,#[2,5,false,fS]),(77,#[2,3,false,fQ]),(78,#[2,2,false,fO]),(79,#[3,3,false,fM]),(80,#[2,3,false,fL]),(81,#[2,3,false,fJ]),(82,#[3,5,false,fI]),(83,Zu)]
theorem FA:FT.map (λq=>fns[q.1]?)=FT.map (λq=>some q.2):=by kernel_rfl
theorem gF(i:Nat){f:Nat}{x:LN}(h:FT[i]? =some (f,x)):fns[f]? =some x:=List.map_inj_left.mp FA _ (List.mem_of_getElem? h)
end Lk17
namespace Nv
open PySem
section
variable{cf:CF}{U U':Env}{t u v:T}{ts:List T}{x y z c:C}{cs:List C}{a b:Bool}
theorem d1{f:C->Option C}(e:(den cf t).v U= .ok x)(h:f x=some z):(den cf (.Ak f t)).v U= .ok z:=by
 show((den cf t).v U).bind (λx=>Res.of (f x))=_;rw[e];show Res.of (f x)=_;rw[h];rfl
theorem d2{f:C->C->Option C}(e1:(den cf t).v U= .ok x)(e2:(den cf u).v U= .ok y)(h:f x y=some z):(den cf (.A1 f t u)).v U= .ok z:=by
 show((den cf t).v U).bind (λx=>((den cf u).v U).bind λy=>Res.of (f x y))=_;rw[e1];show((den cf u).v U).bind _=_;rw[e2];show Res.of (f x y)=_;rw[h];rfl
theorem Td{i:Nat}(h:A8 U i=some c):(den cf (.var i)).v U= .ok c.bor:=by
 show Res.of ((A8 U i).map C.bor)=_;rw[h];rfl
theorem d3{f:C->C->C->Option C}{w:C}(e1:(den cf t).v U= .ok x)(e2:(den cf u).v U= .ok y)(d:(den cf v).v U= .ok z)(h:f x y z=some w):(den cf (.XF f t u v)).v U= .ok w:=by
 show((den cf t).v U).bind (λx=>((den cf u).v U).bind λy=>((den cf v).v U).bind λz=>Res.of (f x y z))=_;rw[e1];show((den cf u).v U).bind _=_;rw[e2];show((den cf v).v U).bind _=_;rw[d];show Res.of (f x y z)=_;rw[h];rfl
theorem fz{p:P}{ps:List P}(e:(den cf t).v U= .ok c)(e2:FR cf ts U= .ok ps)(h:c.CK=some p:=by rfl):FR cf (t::ts) U= .ok (p::ps):=by
 show((den cf t).v U).bind (λc=>(Res.of c.CK).bind λx=>(FR cf ts U).bind λxs=>.ok (x::xs))=_;rw[e];show(Res.of c.CK).bind _=_;rw[h];show(FR cf ts U).bind _=_;rw[e2];rfl
theorem dl{ps:List P}(e:FR cf ts U= .ok ps)(h:ps.length<=1000:=by exact Nat.le_of_ble_eq_true rfl):(den cf (.lst ts)).v U= .ok (.lst true ps):=by
 show(FR cf ts U).bind (λps=>if ps.length<=1000 then .ok (C.lst true ps)else .stuck)=_;rw[e];exact iP h
theorem dt{ps:List P}(e:FR cf ts U= .ok ps)(h:ps.length<=1000:=by exact Nat.le_of_ble_eq_true rfl):(den cf (.tup ts)).v U= .ok (.p (.tup ps)):=by
 show(FR cf ts U).bind (λps=>if ps.length<=1000 then .ok (C.p (.tup ps))else .stuck)=_;rw[e];exact iP h
theorem ar(e:(den cf t).v U= .ok c)(e2:BK cf ts U= .ok cs):BK cf (t::ts) U= .ok (c::cs):=by
 show((den cf t).v U).bind (λc=>(BK cf ts U).bind λcs=>.ok (c::cs))=_;rw[e];show(BK cf ts U).bind _=_;rw[e2];rfl
theorem dc{f:Nat}(e:BK cf ts U= .ok cs)(h:cf f cs= .ok c):(den cf (.call f ts)).v U= .ok c:=by
 show(BK cf ts U).bind (λcs=>cf f cs)=_;rw[e];exact h
theorem BL{f:Nat}(e:(den cf t).v U= .ok x)(h:cf f [x]= .ok c):(den cf (.call f [t])).v U= .ok c:=dc (ar e rfl) h
theorem ED{f:Nat}(e:(den cf t).v U= .ok x)(e2:(den cf u).v U= .ok y)(h:cf f [x,y]= .ok c):(den cf (.call f [t,u])).v U= .ok c:=dc (ar e (ar e2 rfl)) h
theorem dm{f:Nat}(e0:(den cf t).v U= .ok x)(e:BK cf ts U= .ok cs)(h:cf f (x::cs)= .ok c)(d:x.UG=true:=by rfl):(den cf (.Bq f t ts)).v U= .ok c:=by
 show((den cf t).v U).bind (λc=>if c.UG then(BK cf ts U).bind λcs=>cf f (c::cs)else .stuck)=_;rw[e0];show(if x.UG then _ else _)=_;rw[iP d,e];exact h
theorem Hi{f:Nat}(e0:(den cf t).v U= .ok x)(e:(den cf u).v U= .ok y)(h:cf f [x,y]= .ok c)(d:x.UG=true:=by rfl):(den cf (.Bq f t [u])).v U= .ok c:=dm e0 (ar e rfl) h d
theorem dz{i f:Nat}{ps:List P}(h0:A8 U i=some (.p (.fn f ps)))(e:BK cf ts U= .ok cs)(h:cf f (cs++ps.map .p)= .ok c):(den cf (.app i ts)).v U= .ok c:=by
 show(Res.of ((A8 U i).bind C.ZJ)).bind (λq=>(BK cf ts U).bind λcs=>cf q.1 (cs++q.2.map .p))=_;rw[h0];show(BK cf ts U).bind _=_;rw[e];exact h
theorem bv(e:(den cf t).v U= .ok c)(h:FH c=some a:=by rfl)(d:(den cf t).b U=((den cf t).v U).bind λc=>Res.of (FH c):=by rfl):(den cf t).b U= .ok a:=by
 rw[d,e];show Res.of (FH c)=_;rw[h];rfl
theorem bb(e:(den cf t).v U= .ok (bC a))(d:(den cf t).b U=((den cf t).v U).bind λc=>Res.of (FH c):=by rfl):(den cf t).b U= .ok a:=bv e rfl d
theorem H8(e:(den cf t).b U= .ok true):(den cf (.not t)).b U= .ok false:=by
 show((den cf t).b U).bind (λk=>.ok (!k))=_;rw[e];rfl
theorem dB(e:(den cf t).b U= .ok false):(den cf (.not t)).b U= .ok true:=by
 show((den cf t).b U).bind (λk=>.ok (!k))=_;rw[e];rfl
theorem QF(e:(den cf t).b U= .ok true)(e2:(den cf u).b U= .ok a):(den cf (.and t u)).b U= .ok a:=by
 show((den cf t).b U).bind (λk=>if k then(den cf u).b U else .ok false)=_;rw[e];exact e2
theorem UU(e:(den cf t).b U= .ok false):(den cf (.and t u)).b U= .ok false:=by
 show((den cf t).b U).bind (λk=>if k then(den cf u).b U else .ok false)=_;rw[e];rfl
theorem CV(e:(den cf t).b U= .ok false)(e2:(den cf u).b U= .ok a):(den cf (.or t u)).b U= .ok a:=by
 show((den cf t).b U).bind (λk=>if k then .ok true else(den cf u).b U)=_;rw[e];exact e2
theorem QA(e:(den cf t).b U= .ok true):(den cf (.or t u)).b U= .ok true:=by
 show((den cf t).b U).bind (λk=>if k then .ok true else(den cf u).b U)=_;rw[e];rfl
theorem Ea(e:(den cf t).v U= .ok (bC true))(e2:(den cf u).v U= .ok c):(den cf (.and t u)).v U= .ok c:=by
 show((den cf t).v U).bind (λc=>(Res.of c.EN).bind λk=>if k then(den cf u).v U else .ok (C.p (.bl false)))=_;rw[e];exact e2
theorem cQ(e:(den cf t).v U= .ok (bC false)):(den cf (.and t u)).v U= .ok (bC false):=by
 show((den cf t).v U).bind (λc=>(Res.of c.EN).bind λk=>if k then(den cf u).v U else .ok (C.p (.bl false)))=_;rw[e];rfl
theorem aI(e:(den cf t).v U= .ok (bC false))(e2:(den cf u).v U= .ok c):(den cf (.or t u)).v U= .ok c:=by
 show((den cf t).v U).bind (λc=>(Res.of c.EN).bind λk=>if k then .ok (C.p (.bl true))else(den cf u).v U)=_;rw[e];exact e2
theorem dX(e:(den cf t).v U= .ok (bC true)):(den cf (.or t u)).v U= .ok (bC true):=by
 show((den cf t).v U).bind (λc=>(Res.of c.EN).bind λk=>if k then .ok (C.p (.bl true))else(den cf u).v U)=_;rw[e];rfl
theorem dY(e:(den cf t).v U= .ok (bC false)):(den cf (.not t)).v U= .ok (bC true):=by
 show((den cf t).v U).bind (λc=>(Res.of c.EN).bind λk=>.ok (C.p (.bl (!k))))=_;rw[e];rfl
theorem e8(e:(den cf t).v U= .ok (bC true)):(den cf (.not t)).v U= .ok (bC false):=by
 show((den cf t).v U).bind (λc=>(Res.of c.EN).bind λk=>.ok (C.p (.bl (!k))))=_;rw[e];rfl
theorem bY(e:(den cf t).b U= .ok true)(h:(den cf u).v U= .ok c):(den cf (.ite t u v)).v U= .ok c:=by
 show((den cf t).b U).bind (λk=>if k then(den cf u).v U else(den cf v).v U)=_;rw[e];exact h
theorem ZM(e:(den cf t).b U= .ok false)(h:(den cf v).v U= .ok c):(den cf (.ite t u v)).v U= .ok c:=by
 show((den cf t).b U).bind (λk=>if k then(den cf u).v U else(den cf v).v U)=_;rw[e];exact h
theorem bZ{f g:C->C->Option C}(e1:(den cf t).v U= .ok x)(e2:(den cf u).v U= .ok y)(d:(den cf v).v U= .ok z)(h1:f x y=some (bC a))(h2:g y z=some (bC b)):(den cf (.Tu f g t u v)).v U= .ok (bC (a && b)):=by
 show((den cf t).v U).bind (λx=>((den cf u).v U).bind λy=>(Res.of ((f x y).bind C.EN)).bind λk=>if k then((den cf v).v U).bind λz=>Res.of (g y z)else .ok (C.p (.bl false)))=_;rw[e1];show((den cf u).v U).bind _=_;rw[e2];show(Res.of ((f x y).bind C.EN)).bind _=_;rw[h1];cases a with
 |false=>rfl
 |true=>show((den cf v).v U).bind _=_;rw[d];show Res.of (g y z)=_;rw[h2];rfl
theorem My{cond:Env->Res Bool}{elt:Env->Res C}(p:P->Bool)(f:P->P):∀{xs:List P},(∀x∈xs,∃β,Cs g x U=some β/\cond β= .ok (p x)/\(p x=true->∃c,elt β= .ok c/\c.CK=some (f x)))->C7 g cond elt U xs= .ok ((xs.filter p).map f)
 |[],_=>rfl
 | x ::xs,h=>by
   rintro⟨β,e1,e2,k⟩:h x (.head _);have e:=My p f λz hz=>h z (.tail _ hz)
   show(Res.of (Cs g x U)).bind _=_;rw[e1];show(cond β).bind _=_;rw[e2];cases d:p x with
   |false=>rw[List.filter_cons_of_neg (by simp[d])];exact e
   |true=>
     rintro⟨c,j,i⟩:k d;rw[List.filter_cons_of_pos d];show(elt β).bind _=_;rw[j];show(Res.of c.CK).bind _=_;rw[i];show(C7 g cond elt U xs).bind _=_;rw[e];rfl
variable{fr:List (Option Nat)}
theorem fA{ks:Sq}{cond:List T}{xs:List P}(p:P->Bool)(f:P->P)(e:(den cf t).v U= .ok c)(d:ks c=some xs)(hl:xs.length<=100000)(h:∀x∈xs,∃β,Cs g x (AE fr U)=some β/\FU cf cond β= .ok (p x)/\(p x=true->∃c,(den cf u).v β= .ok c/\c.CK=some (f x))):
 (den cf (.comp g ks t cond u fr)).v U= .ok (.lst true ((xs.filter p).map f)):=by
 show((den cf t).v U).bind (λc=>(Res.of (ks c)).bind λxs=>if xs.length<=big then(C7 g (FU cf cond) (den cf u).v (AE fr U) xs).bind λys=>.ok (C.lst true ys)else .stuck)=_;rw[e];show(Res.of (ks c)).bind _=_;rw[d];show(if xs.length<=big then _ else _)=_;rw[iP (show xs.length<=big from hl),My p f h];rfl
theorem filter_tt{α:Type}(l:List α):l.filter (λ_=>true)=l:=List.filter_eq_self.mpr λ_ _=>rfl
theorem XS{ks:Sq}{xs:List P}(f:P->P)(e:(den cf t).v U= .ok c)(i:ks c=some xs)(hl:xs.length<=100000)(h:∀x∈xs,∃β,Cs g x (AE fr U)=some β/\∃c,(den cf u).v β= .ok c/\c.CK=some (f x)):(den cf (.comp g ks t [] u fr)).v U= .ok (.lst true (xs.map f)):=by
 have:=fA (cond:=[]) (λ_=>true) f e i hl λx d=>let⟨β,e1,e2⟩:=h x d;#[β,e1,rfl,λ_=>e2]
 rwa[filter_tt]at this
end
def WP(r:Fl)(N:Env->Prop)(R:C->Prop):Prop:=match r with
 |.nx U=>N U
 |.ret c=>R c
 |_=>False
section
variable{cf:CF}{U U':Env}{t:T}{ts:List T}{c c':C}{cs:List C}{ss A B:List S}{N:Env->Prop}{R:C->Prop}{g:Tg}
theorem Ji(h:WP (exec cf As s U) (λU'=>WP (execs cf As ss U') N R) R):WP (execs cf As (s::ss) U) N R:=by
 show WP ((exec cf As s U).then (execs cf As ss)) N R;cases e:exec cf As s U with
 |nx U'=>rw[e]at h;exact h
 |ret c=>rw[e]at h;exact h
 |_=>rw[e]at h;exact h.elim
theorem Y8(e:exec cf As s U= .nx U')(h:WP (execs cf As ss U') N R):WP (execs cf As (s::ss) U) N R:=Ji (by rw[e];exact h)
theorem aG(e:(den cf t).v U= .ok c)(hs:Gj g c U=some U')(h:WP (execs cf As ss U') N R):WP (execs cf As (.asg g t::ss) U) N R:=by
 refine Y8 (U':=U') ?_ h;show((den cf t).v U).fl _=_;rw[e];show(match Gj g c U with|some U'=>Fl.nx U'|none=>.stuck)=_;rw[hs]
theorem Am{i:Nat}(e:(den cf t).v U= .ok c)(h:WP (execs cf As ss (U.set i (some c))) N R)(a:c.own=true:=by rfl):WP (execs cf As (.asg (.nm i) t::ss) U) N R:=aG e (iP a) h
theorem Ax(e:(den cf t).v U= .ok c)(h:R c)(a:c.own=true:=by rfl):WP (execs cf As (.ret t::ss) U) N R:=by
 refine Ji ?_;show WP (((den cf t).v U).fl _) _ _;rw[e];show WP (if c.own then .ret c else .stuck) _ _;rw[iP a];exact h
theorem MQ{i:Nat}(h:R c)(e:A8 U i=some c:=by rfl)(a:c.own=true:=by rfl):WP (execs cf As (.CG i::ss) U) N R:=by
 refine Ji ?_;show WP (match A8 U i with|some c=>if c.own then .ret c else .stuck|none=>.stuck) _ _;rw[e];show WP (if c.own then .ret c else .stuck) _ _;rw[iP a];exact h
theorem wit(e:(den cf t).b U= .ok true)(h:WP (execs cf As A U) (λU'=>WP (execs cf As ss U') N R) R):WP (execs cf As (.ifs t A B::ss) U) N R:=by
 refine Ji ?_;show WP (((den cf t).b U).fl _) _ _;rw[e];exact h
theorem Y9(e:(den cf t).b U= .ok false)(h:WP (execs cf As B U) (λU'=>WP (execs cf As ss U') N R) R):WP (execs cf As (.ifs t A B::ss) U) N R:=by
 refine Ji ?_;show WP (((den cf t).b U).fl _) _ _;rw[e];exact h
theorem Ag(e:(den cf t).b U= .ok false)(h:WP (execs cf As ss U) N R):WP (execs cf As (.ifs t A []::ss) U) N R:=Y9 e h
theorem NT{i:Nat}{o:Bool}{f:C->List C->Option C}(e:BK cf ts U= .ok cs)(hf:f c cs=some c')(h:WP (execs cf As ss (U.set i (some c'))) N R)(a:A8 U i=some c:=by rfl)(b:(cond o C.SW λ_=>true) c=true:=by rfl):WP (execs cf As (.Ce i o f ts::ss) U) N R:=by
 refine Y8 (U':=U.set i (some c')) ?_ h;show(if !(A8 U i).any (cond o C.SW λ_=>true)then .stuck else(BK cf ts U).fl _)=_;rw[e,iN (by rw[a];simp[b])];show(match(A8 U i).bind λc=>f c cs with|some c'=>Fl.nx (U.set i (some c'))|none=>.stuck)=_;rw[a];show(match f c cs with|some c'=>Fl.nx (U.set i (some c'))|none=>.stuck)=_;rw[hf]
theorem Jj{i:Nat}{ps:List P}(e:(den cf t).v U= .ok (.p p))(hl:ps.length < 100000)(h:WP (execs cf As ss (U.set i (some (.lst true (ps++[p]))))) N R)(a:A8 U i=some (.lst true ps):=by rfl):WP (execs cf As (.Ce i true (EL LK) [t]::ss) U) N R:=
 NT (c:=.lst true ps) (ar e rfl) (show(if ps.length < big then some (nw (ps++[p]))else none)=_ from iP hl) h a rfl
theorem XC{i:Nat}{ps qs:List P}(e:(den cf t).v U= .ok c)(b:c.seq? =some qs)(hl:(ps++qs).length<=100000)(h:WP (execs cf As ss (U.set i (some (.lst true (ps++qs))))) N R)(a:A8 U i=some (.lst true ps):=by rfl):WP (execs cf As (.Ce i true (EL IY) [t]::ss) U) N R:=by
 refine NT (c:=.lst true ps) (ar e rfl) ?_ h a rfl;show(c.seq?.bind λqs=>((if(ps++qs).length<=big then some (ps++qs)else none)).map nw)=_;rw[b];show((if(ps++qs).length<=big then some (ps++qs)else none)).map nw=_;rw[iP (show(ps++qs).length<=big from hl)];rfl
theorem aF{i:Nat}{kvs:List (P×P)}(e:(den cf t).v U= .ok (.p p))(e2:(den cf u).v U= .ok (.p q))(a:Bk kvs q=true)(hl:kvs.length < 100000)(h:WP (execs cf As ss (U.set i (some (.Bl true (dput kvs q p))))) N R)(b:A8 U i=some (.Bl true kvs):=by rfl):WP (execs cf As (.Ce i false (Dt λc x k=>Dq c k x) [t,u]::ss) U) N R:=
 NT (c:=.Bl true kvs) (ar e (ar e2 rfl)) (show(if Bk kvs q=true/\kvs.length < big then some (C.Bl true (dput kvs q p))else none)=_ from iP #[a,hl]) h b rfl
variable{j:Nat}
theorem cO{i:Nat}{kvs:List (P×P)}{fs:List Fd}(e:(den cf t).v U= .ok (.p p))(e2:(den cf u).v U= .ok (.p q))(b:fs[j]? =some (.d kvs))(a:Bk kvs q=true)(hl:kvs.length < 100000)(h:WP (execs cf As ss (U.set i (some (.obj true (fs.set j (.d (dput kvs q p))))))) N R)(f:A8 U i=some (.obj true fs):=by rfl):WP (execs cf As (.Ce i false (Dt (Bz j)) [t,u]::ss) U) N R:=by
 refine NT (c:=.obj true fs) (ar e (ar e2 rfl)) ?_ h f rfl;show((fs[j]?).bind λd=>d.WM.bind λkvs=>if Bk kvs q=true/\kvs.length < big then some (C.obj true (fs.set j (.d (dput kvs q p))))else none)=_;rw[b];exact iP #[a,hl]
theorem af{i:Nat}{ps:List P}(a:j≠i)(h:WP (execs cf As ss ((U.set i (some (.lst true ps))).set j (some (.p p)))) N R)(b:A8 U i=some (.lst true (ps++[p]))):WP (execs cf As (.pop (some j) i::ss) U) N R:=by
 refine Y8 ?_ h;show(match(A8 U i).bind JI with|some q=>if j=i then Fl.stuck else .nx ((U.set i (some q.2)).set j (some (.p q.1)))|none=>.stuck)=_;rw[b];show(match(ps++[p]).getLast?.map λx=>(x,C.lst true (ps++[p]).dropLast)with|some q=>if j=i then Fl.stuck else .nx ((U.set i (some q.2)).set j (some (.p q.1)))|none=>.stuck)=_;rw[List.getLast?_concat,List.dropLast_concat];exact iN a
theorem GJ{b:Env->Fl}:∀{xs:List P} {U:Env} (Q:Nat->Env->Prop),Q 0 U->(∀i x,xs[i]? =some x->∀U,Q i U->∃a,Cs g x U=some a/\WP (b a) (Q (i + 1)) R)->WP (forL g b xs U) (Q xs.length) R
 |[],_,_,h0,_=>h0
 | x::xs,U,Q,h0,hs=>by
   rintro⟨a,e1,h1⟩:hs 0 x rfl U h0;show WP (match Cs g x U with|some a=>(b a).turn (forL g b xs)|none=>.stuck) _ _;rw[e1];show WP ((b a).turn (forL g b xs)) _ _;cases e:b a with
   |nx U2=>rw[e]at h1;exact GJ (λi=>Q (i+1)) h1 λi x d=>hs (i+1) x d
   |ret c=>rw[e]at h1;exact h1
   |_=>rw[e]at h1;exact h1.elim
theorem Ya{r:Fl}{f:Env->Env}(h:WP r (λU=>N (f U)) R):WP (r.fin f) N R:=by
 cases r<;>first|exact h|exact h.elim
theorem EK{ks:Sq}{xs:List P}(Q:Nat->Env->Prop)(e:(den cf t).v U= .ok c)(d:ks c=some xs)(h0:Q 0 U)(hs:∀i x,xs[i]? =some x->∀U,Q i U->∃a,Cs g x U=some a/\WP (execs cf As B a) (Q (i + 1)) R)(h:∀U,Q xs.length U->WP (execs cf As ss U) N R)(b:c.own=true:=by rfl)(hl:Fq t=none:=by rfl):WP (execs cf As (.Dj g ks t B::ss) U) N R:=by
 refine Ji ?_;show WP (match Fq t with|some i=>_|none=>((den cf t).v U).fl λc=>match ks c with|some xs=>if c.own then(forL g (execs cf As B) xs U).fin id else .stuck|none=>.stuck) _ _;rw[hl];show WP (((den cf t).v U).fl _) _ _;rw[e];show WP (match ks c with|some xs=>if c.own then(forL g (execs cf As B) xs U).fin id else .stuck|none=>.stuck) _ _;rw[d];show WP (if c.own then _ else _) _ _;rw[iP b];refine Ya ?_;have:=GJ (R:=R) Q h0 hs
 revert this
 cases forL g (execs cf As B) xs U<;>first|exact h _|exact id
theorem R9{ks:Sq}{xs:List P}{i:Nat}(Q:Nat->Env->Prop)(d:A8 U i=some c)(b:ks c.bor=some xs)(h0:Q 0 (U.set i (some c.bor)))(hs:∀j x,xs[j]? =some x->∀U,Q j U->∃a,Cs g x U=some a/\WP (execs cf As B a) (Q (j + 1)) R)(h:∀U,Q xs.length U->WP (execs cf As ss (Ra (some c) i U)) N R)(e:(g.slots++CD B).contains i=false:=by rfl):WP (execs cf As (.Dj g ks (.var i) B::ss) U) N R:=by
 refine Ji ?_;show WP (match(A8 U i).bind λc=>ks c.bor with|some xs=>if(g.slots++CD B).contains i then .stuck else(forL g (execs cf As B) xs (U.set i ((A8 U i).map C.bor))).fin (Ra (A8 U i) i)|none=>.stuck) _ _;rw[d];show WP (match ks c.bor with|some xs=>if(g.slots++CD B).contains i then .stuck else(forL g (execs cf As B) xs (U.set i (some c.bor))).fin (Ra (some c) i)|none=>.stuck) _ _;rw[b];show WP (if(g.slots++CD B).contains i then _ else _) _ _;rw[iN (by rw[e];exact Bool.false_ne_true)];refine Ya ?_;have:=GJ (R:=R) Q h0 hs
 revert this
 cases forL g (execs cf As B) xs (U.set i (some c.bor))<;>first|exact h _|exact id
theorem Ho{c:Env->Res Bool}{b:Env->Fl}:∀(n:Nat) (U:Env),Ay c b n U≠.stuck->Ay c b (n + 1) U=Ay c b n U
 |0,U,h=>absurd rfl h
 | n + 1,U,h=>by
   have e1:∀m,Ay c b (m+1) U=(c U).fl λx=>if x then(b U).turn (Ay c b m)else .nx U:=λm=>rfl
   rw[e1]at h;rw[e1,e1];cases a:c U with
   |stuck=>rfl
   |ok x=>
     rw[a]at h;cases x with
     |false=>rfl
     |true=>
       have h':(b U).turn (Ay c b n)≠.stuck:=h;show(b U).turn (Ay c b (n+1))=(b U).turn (Ay c b n);cases d:b U with
       |nx U'=>rw[d]at h';exact Ho n U' h'
       |_=>rfl
theorem E1{c:Env->Res Bool}{b:Env->Fl}{n:Nat}(h:Ay c b n U≠.stuck):∀m,Ay c b (n + m) U=Ay c b n U
 |0=>rfl
 | m + 1=>by
   have a:=E1 h m;rw[<-a];exact Ho (n+m) U (by rw[a];exact h)
theorem V0{c:Env->Res Bool}{b:Env->Fl}{n:Nat}(h:WP (Ay c b n U) N R):WP (As c b U) N R:=by
 have d:Ay c b n U≠.stuck:=λz=>by rw[z]at h;exact h
 have a:∃n,Ay c b n U≠.stuck:=#[n,d]
 have e:As c b U=Ay c b n U:=by
  unfold As;rw[dif_pos a];have:=E1 a.choose_spec n;rw[<-this,Nat.add_comm];exact E1 d _
 rw[e];exact h
theorem ae(Q:Nat->Env->Prop){n:Nat}(h0:Q n U)(hs:∀n U,Q n U->((den cf t).b U= .ok false/\WP (execs cf As ss U) N R)\/((den cf t).b U= .ok true/\WP (execs cf As B U) (λU'=>∃m,m < n/\Q m U') R)):WP (execs cf As (.R8 t B::ss) U) N R:=by
 refine Ji (V0 (n:=n+1) ?_)
 have:∀k n U,n < k->Q n U->WP (Ay (den cf t).b (execs cf As B) k U) (λU'=>WP (execs cf As ss U') N R) R:=by
  intro k
  induction k with
  |zero=>intro n U h;exact absurd h (Nat.not_lt_zero _)
  |succ k d=>
    intro n U f hq;show WP (((den cf t).b U).fl λx=>if x then(execs cf As B U).turn (Ay (den cf t).b (execs cf As B) k)else .nx U) _ _;rcases hs n U hq with⟨e,h⟩|⟨e,h⟩
    .rw[e];exact h
    .rw[e];show WP ((execs cf As B U).turn (Ay (den cf t).b (execs cf As B) k)) _ _;cases a:execs cf As B U with
     |nx U'=>rw[a]at h;rintro⟨m,hm,q⟩:h;exact d m U' (by lia) q
     |ret c=>rw[a]at h;exact h
     |_=>rw[a]at h;exact h.elim
 exact this (n+1) n U (Nat.lt_succ_self _) h0
noncomputable abbrev cN (k:Nat):CF:=Be Lk17.fns As k
variable{np nl:Nat}{args:List C}
theorem cw{f k:Nat}{B:List S}(h:Lk17.fns[f]? =some #[np,nl,false,B])(e:WP (k<<<B>>>(args.map some++List.replicate (nl - np) none)) (λ_=>R (.p .AG)) R)(hl:args.length=np:=by rfl):∃c,cN (k + 1) f args= .ok c/\R c:=by
 have e1:cN (k + 1) f args=Cu (cN k) As #[np,nl,false,B] args:=by
  show(match Lk17.fns[f]? with|some fi=>Cu (cN k) As fi args|none=>.stuck)=_;rw[h]
 have e2:Cu (cN k) As #[np,nl,false,B] args=match execs (cN k) As B (args.map some++List.replicate (nl - np) none)with| .nx _=>.ok (.p .AG)| .ret c=>.ok c|_=>.stuck:=by
  unfold Cu;rw[iP hl];rfl
 rw[e1,e2];cases a:k<<<B>>>(args.map some++List.replicate (nl-np) none)with
 |nx U=>rw[a]at e;exact#[_,rfl,e]
 |ret c=>rw[a]at e;exact#[_,rfl,e]
 |_=>rw[a]at e;exact e.elim
theorem ce{f k:Nat}{B:List S}(h:Lk17.fns[f]? =some #[np,nl,false,B])(e:WP (k<<<B>>>(args.map some++List.replicate (nl - np) none)) (λ_=>c= .p .AG) (λd=>c=d))(hl:args.length=np:=by rfl):cN (k + 1) f args= .ok c:=by
 rintro⟨d,e1,e2⟩:cw (R:=λd=>c=d) h e hl;rw[e1,e2]
end
end Nv
namespace Nv
open PySem Lk17
def small(c:Nat):Bool:=decide (97<=c) && decide (c<=122)
def great(c:Nat):Bool:=decide (65<=c) && decide (c<=90)
abbrev sT(l:List Nat):Str:=⟨l.toArray⟩
def Ah(x:Str):Bool:=decide (1<=x.cps.toList.length) && decide (x.cps.toList.length<=8) && x.cps.toList.all small
def DV(x:Str):Bool:=match x.cps.toList with
 |[]=>false
 |c::l=>great c && decide (l.length<=7) && l.all small
theorem G2(a b:Nat):Lb (.p (.str ⟨[a].toArray⟩)) (.p (.str ⟨[b].toArray⟩))=some (bC (decide (a<=b))):=by
 show some (bC (decide (([a]:List Nat)<=[b])))=_
 congr 2
 by_cases h:a<=b
 .simp[h,List.cons_le_cons_iff];lia
 .simp[h,List.cons_le_cons_iff];lia
theorem TM(l:List Bool):Cv P.EN (l.map P.bl)=some l:=by
 induction l with
 |nil=>rfl
 |cons c l a=>show(some c).bind _=_;rw[Option.bind_some,a];rfl
variable{α:Type}
theorem all_map(f:α->Bool)(l:List α){o:Bool}:Ff (.lst o (l.map λx=>P.bl (f x)))=some (bC (l.all f)):=by
 have:(l.map λx=>P.bl (f x))=(l.map f).map P.bl:=by rw[map_map];rfl
 rw[this];show((Cv P.EN ((l.map f).map P.bl)).map λbs=>bC (bs.all id))=_;rw[TM,Option.map_some,List.all_map];rfl
theorem len_str{x:Str}(h:x.cps.toList.length<=100000):AD (.p (.str x))=some (.p (.int x.cps.toList.length)):=by
 show((if x.length<=big then some (signs x)else none).map λps=>C.p (.int ps.length))=_;rw[iP (show x.length<=big from(by simpa[Str.length]using h:x.length<=100000))];show some (C.p (.int ((x.cps.toList.map sign).length:Nat)))=_;rw[lM]
theorem Yc{x:Str}(h:x.cps.toList.length<=100000)(d:∀c∈x.cps.toList,c < 128):AM (.p (.str x))=some (x.cps.toList.map sign):=by
 show(match(none:Option (List P))with|some a=>some a|none=>((if x.length<=big then some (signs x)else none).bind λps=>if(x.cps.all λk=>decide (k < 128))=true then some ps else none))=_;rw[iP (show x.length<=big from(by simpa[Str.length]using h:x.length<=100000)),Option.bind_some,iP]
 .rfl
 .rw[<-Array.all_toList,all_eq_true];exact λc b=>dZ (d c b)
theorem Ot{l:List Nat}(h:l.all small=true):∀c∈l,c < 128:=λc a=>by
 have:=all_eq_true.mp h c a;simp[small]at this
 lia
theorem Ia{k:Nat}{x:Str}(e:k|||t&&&U= .ok (.p (.str x)))(h:x.cps.toList.length<=100000)(hs:x.cps.toList.all small=true):k|||(.Ak Ff (.comp (.nm 1) AM t [] (.Tu Lb Lb {"a"} {1} {"z"}) [none,none]))&&&U= .ok (bC true):=by
 refine d1 (XS (λ_=>.bl true) e (Yc h (Ot hs)) (by rw[lM];exact h) λy a=>?_) ?_
 .obtain⟨c,b,rfl⟩:=mem_map.mp a;have:=all_eq_true.mp hs c b;rw[small,bA]at this;refine#[_,rfl,_,bZ rfl rfl rfl (G2 97 c) (G2 c 122),?_];rw[this.1,this.2];rfl
 .rw[map_map];exact(all_map (λ_=>true) x.cps.toList).trans (by rw[show x.cps.toList.all (λ_=>true)=true from all_eq_true.mpr λ_ _=>rfl])
section
variable{k:Nat}{x:Str}
theorem Pa(h:Ah x=true):1<=x.cps.toList.length/\x.cps.toList.length<=8/\x.cps.toList.all small=true:=by
 simp only[Ah,bA,decide_eq_true_eq]at h;exact#[h.1.1,h.1.2,h.2]
variable{j:Int}
theorem FJ{i:Int}(h:¬i < j):L7 (.p (.int i)) (.p (.int j))=some (bC false):=congrArg (λb=>some (bC b)) (dF h)
theorem K2{i:Int}(h:¬j < i):Ny (.p (.int i)) (.p (.int j))=some (bC false):=congrArg (λb=>some (bC b)) (dF h)
theorem WJ{i:Int}(h:i<=j):Lb (.p (.int i)) (.p (.int j))=some (bC true):=congrArg (λb=>some (bC b)) (dZ h)
theorem JR{i:Int}(h:i < j):L7 (.p (.int i)) (.p (.int j))=some (bC true):=congrArg (λb=>some (bC b)) (dZ h)
theorem bT{i:Int}(h:j<=i):ZD (.p (.int i)) (.p (.int j))=some (bC true):=congrArg (λb=>some (bC b)) (dZ h)
theorem Bf(h:Ah x=true):cN (k + 1) 6 [.p (.str x)]= .ok (bC true):=by
 rintro⟨h1,h2,a⟩:Pa h;have hl:=len_str (x:=x) (by lia);exact ce (gF 5 rfl) (Ag (H8 (bb (d1 rfl rfl))) (Ag (CV (bb (d2 (d1 rfl hl) rfl (FJ (by lia)))) (bb (d2 (d1 rfl hl) rfl (K2 (by lia))))) (Ax (Ia rfl (by lia) a) rfl)))
end
inductive Lf where
 |nm (n:Str)|op (i:Nat)
inductive Kd where
 |op (i:Nat)|mk (n:Str)(as:List Lf)
def Lf.k:Lf->Kd
 |.nm n=>.mk n []
 |.op i=>.op i
def Lf.p:Lf->P
 |.nm n=>.tup [.str n]
 |.op i=>.int i
def Kd.p:Kd->P
 |.op i=>.int i
 |.mk n as=>.tup (.str n::as.map Lf.p)
def Kd.parts:Kd->List Kd
 |.op _=>[]
 |.mk _ as=>as.map Lf.k
def Kd.w(k:Kd):List Kd:=k::k.parts
def Lf.ok:Lf->Prop
 |.nm n=>Ah n=true
 |.op _=>True
def Kd.ok:Kd->Prop
 |.op _=>True
 |.mk n as=>Ah n=true/\as.length<=3/\∀a∈as,a.ok
theorem Zq(l:Lf):l.k.p=l.p:=by cases l<;>rfl
theorem Ux(as:List Lf):(as.map Lf.k).map Kd.p=as.map Lf.p:=by rw[map_map];exact map_congr_left λl _=>Zq l
theorem Uy{l:Lf}(h:l.ok):l.k.ok:=by
 cases l with
 |nm n=>exact#[h,by decide,λa b=>by cases b]
 |op i=>trivial
theorem SE(l:Lf):l.k.w=[l.k]:=by cases l<;>rfl
def Kd.sz(k:Kd):Nat:=k.w.length
theorem Av(ps:List P):AD (.p (.tup ps))=some (.p (.int ps.length)):=rfl
theorem AA{c:C}{ps:List P}{i:Nat}{x:P}(a:(c.seq? <|> c.Kw)=some ps)(h:ps[i]? =some x):Ae c (.p (.int i))=some (.p x):=by
 show((c.seq? <|> c.Kw).bind λps=>(IK ps.length (i:Int)).bind λk=>(ps[k]?).map C.p)=_;rw[a];have hi:=(List.getElem?_eq_some_iff.mp h).1;show((IK ps.length (i:Int)).bind λk=>(ps[k]?).map C.p)=_;unfold IK;rw[iP (by lia),iP (by lia),Option.bind_some,Int.toNat_natCast,h];rfl
section
variable{k:Nat}{n:Str}{as:List Lf}{i:Nat}
theorem GD{i:Int}:cN (k+1) 7 [.p (.int i)]= .ok (bC true):=ce (gF 6 rfl) (Ax (Ea (d1 rfl rfl) (dY (d1 rfl rfl))) rfl)
theorem SU:cN (k+2) 8 [.p (.int (i:Nat))]= .ok (bC true):=ce (gF 7 rfl) (Ax (Ea (BL rfl GD) #[bT (by lia)]) rfl)
theorem WE:cN (k+2) 9 [.p (.int (i:Nat))]= .ok (bC false):=ce (gF 8 rfl) (wit (dB (bb (d1 rfl rfl))) (Ax rfl rfl))
theorem WD(h:Ah n=true)(hl:as.length<=3):cN (k + 2) 9 [.p (Kd.mk n as).p]= .ok (bC true):=
 ce (gF 8 rfl) (Ag (H8 (bb (d1 rfl rfl))) (Ag (CV (bb (d2 (d1 rfl (Av _)) rfl (FJ (by simp;lia)))) (bb (d2 (d1 rfl (Av _)) #[rfl] (K2 (by simp;lia))))) (Ax (BL #[#[0]] (Bf h)) rfl)))
theorem Ov{x:P}{ps:List P}:M7 (.p (.tup (x::ps))) (.p (.int 1))=some (.p (.tup ps)):=by
 show some (C.p (.tup (((x::ps).drop (min 1 (ps.length+1))).take ((ps.length+1)-min 1 (ps.length+1)))))=_;rw[Nat.min_eq_left (by lia),drop_one,List.tail_cons,take_of_length_le (by lia)]
theorem Od(k:Kd):1<=k.sz:=by unfold Kd.sz Kd.w;simp
def Dm(ks:List Kd):Nat:=(ks.map Kd.sz).sum
theorem FX(a b:List Kd):Dm (a++b)=Dm a+Dm b:=by simp[Dm]
theorem Hr(k:Kd):Dm k.parts + 1=k.sz:=by
 cases k with
 |op i=>rfl
 |mk n as=>
   show Dm (as.map Lf.k)+1=(as.map Lf.k).length+1
   have:∀as:List Lf,Dm (as.map Lf.k)=as.length:=λas=>by
    induction as with
    |nil=>rfl
    |cons a as b=>rw[map_cons,show Dm (a.k::as.map Lf.k)=a.k.sz+Dm (as.map Lf.k)from by simp[Dm],b,Kd.sz,SE];simp;lia
   rw[this,lM]
theorem JJ{k:Kd}(h:k.ok):∀x∈k.parts,x.ok:=by
 cases k with
 |op i=>intro x a;cases a
 |mk n as=>intro x a;rintro⟨l,hl,rfl⟩:mem_map.mp a;exact Uy (h.2.2 l hl)
theorem snoc{α:Type}{l:List α}(h:l≠[]):∃a x,l=a++[x]:=#[l.dropLast,l.getLast h,(List.dropLast_concat_getLast h).symm]
theorem SV{x:Kd}(h:x.ok):cN (k + 3) 10 [.p x.p]= .ok (bC true):=by
 have q:x.sz<=4:=by
  cases x with
  |op i=>exact(by decide:1<=4)
  |mk n as=>have:=h.2.1;simp[Kd.sz,Kd.w,Kd.parts];lia
 refine ce (gF 9 rfl) (Am (dl (fz rfl rfl)) (Am rfl (ae (λm U=>∃(ks:List Kd) (c:Nat) (y:Option C),U=[sP x.p,sL true (ks.map Kd.p),sI c,y]/\(∀z∈ks,z.ok)/\c+m<=4/\m=Dm ks) (n:=x.sz) #[[x],0,none,rfl,λz hz=>by rw[mE hz];exact h,by lia,by simp[Dm]] ?_)))
 rintro m _ ⟨ks,c,y,rfl,b,j,rfl⟩
 by_cases e:ks=[]
 .subst e;exact .inl #[bv rfl,Ax rfl rfl]
 .obtain⟨ks,z,rfl⟩:=snoc e;have hz:=b z (by simp);have hs:Dm (ks++[z])=Dm ks+z.sz:=by simp[Dm]
  have g:=Hr z;refine .inr #[bv (c:=.lst false ((ks++[z]).map Kd.p)) rfl (by simp[FH]),Am #[show Ad _ _=some (.p (.int ((c+1:Nat):Int)))from rfl] (Ag (bb #[K2 (by lia)]) (af #[] (ps:=ks.map Kd.p) (p:=z.p) ?_ (by rw[<-map_singleton (f:=Kd.p),<-map_append];rfl)))];cases z with
  |op i=>exact Y9 (bb (BL rfl WE)) (Ag (H8 (bb (BL rfl SU))) #[Dm ks,by lia,ks,c+1,_,rfl,λz hz=>b z (by simp[hz]),by lia,rfl])
  |mk n as=>
    have hl:=hz.2.1;refine wit (bb (BL rfl (WD hz.1 hz.2.1))) (XC (ps:=ks.map Kd.p) #[Ov] rfl ?_ #[Dm (ks++as.map Lf.k),?_,ks++as.map Lf.k,c+1,sP (Kd.mk n as).p,?_,λz d=>?_,?_,rfl])
    .have:ks.length<=Dm ks:=by
      clear hs b e j
      induction ks with
      |nil=>exact Nat.zero_le _
      |cons a l o=>have:=Od a;simp[Dm]at o ⊢;lia
     simp;lia
    .rw[FX];rw[hs];simp only[Kd.parts]at g;lia
    .rw[map_append (l₁:=ks) (l₂:=as.map Lf.k),Ux];rfl
    .rcases mZ d with w|w
     .exact b z (by simp[w])
     .exact JJ hz z w
    .rw[FX];rw[hs]at j;simp only[Kd.parts]at g;lia
end
section
variable{k:Nat}
theorem UZ(ks:List Kd):ks.length<=Dm ks:=by
 induction ks with
 |nil=>exact Nat.zero_le _
 |cons a l b=>have:=Od a;simp[Dm]at b ⊢;lia
theorem M3{x:Kd}(h:x.ok):x.sz<=4:=by
 cases x with
 |op i=>exact(by decide:1<=4)
 |mk n as=>have:=h.2.1;simp[Kd.sz,Kd.w,Kd.parts];lia
theorem within{x:Kd}(h:x.ok):cN (k + 1) 11 [.p x.p]= .ok (.lst true (x.w.map Kd.p)):=by
 have r:=M3 h;refine ce (gF 10 rfl) (Am (dl rfl) (Am (dl (fz rfl rfl)) (ae (λm U=>∃(ws ks:List Kd) (y:Option C),U=[sP x.p,sL true (ws.map Kd.p),sL true (ks.map Kd.p),y]/\ws++ks.reverse.flatMap Kd.w=x.w/\(∀z∈ks,z.ok)/\m=Dm ks/\Dm ks<=4) (n:=x.sz) #[[],[x],none,rfl,by simp,λz hz=>by rw[mE hz];exact h,by simp[Dm],by simp[Dm];exact r] ?_)))
 rintro m _ ⟨ws,ks,y,rfl,hw,d,rfl,hm⟩
 have q:ws.length<=x.sz:=by have:=congrArg List.length hw;rw[lA]at this;show _<=x.w.length;lia
 by_cases l:ks=[]
 .subst l;exact .inl #[bv rfl,MQ (c:=.lst true (ws.map Kd.p)) (by rw[<-hw];simp)]
 .obtain⟨ks,z,rfl⟩:=snoc l;have hz:=d z (by simp);have hs:Dm (ks++[z])=Dm ks+z.sz:=by simp[Dm]
  have j:=Hr z;have hl:=UZ ks
  have b:(ws++[z])++(ks++z.parts.reverse).reverse.flatMap Kd.w=x.w:=by
   rw[<-hw]
   have e:z.parts.flatMap Kd.w=z.parts:=by
    cases z with
    |op i=>rfl
    |mk n as=>
      show(as.map Lf.k).flatMap Kd.w=as.map Lf.k;clear hz hs j hw d hm l
      induction as with
      |nil=>rfl
      |cons a as o=>simp[SE,o]
   simp[e,Kd.w]
  refine .inr #[bv (c:=.lst false ((ks++[z]).map Kd.p)) rfl (by simp[FH]),af #[] (ps:=ks.map Kd.p) (p:=z.p) (Jj (ps:=ws.map Kd.p) (p:=z.p) rfl (by rw[lM];lia) ?_) (by rw[<-map_singleton (f:=Kd.p),<-map_append];rfl)];cases z with
  |op i=>exact Ag (bb (d1 rfl rfl)) #[Dm ks,by lia,ws++[.op i],ks,sP (Kd.op i).p,by rw[map_append (l₁:=ws)];rfl,by simpa[Kd.parts]using b,λz hz=>d z (by simp[hz]),rfl,by lia]
  |mk n as=>
    have e1:(as.map Lf.p).reverse=((as.map Lf.k).reverse).map Kd.p:=by rw[List.map_reverse,Ux]
    refine wit (bb (d1 rfl rfl)) (XC (ps:=ks.map Kd.p) (d1 #[Ov] rfl) rfl (by have:=hz.2.1;simp;lia) #[Dm (ks++(as.map Lf.k).reverse),?_,ws++[.mk n as],ks++(as.map Lf.k).reverse,sP (Kd.mk n as).p,?_,b,λz g=>?_,rfl,?_])
    .rw[FX,hs,show Dm (as.map Lf.k).reverse=Dm (as.map Lf.k)from by simp[Dm]];simp only[Kd.parts]at j;lia
    .rw[map_append (l₁:=ks) (l₂:=(as.map Lf.k).reverse),<-e1,map_append (l₁:=ws)];rfl
    .rcases mZ g with w|w
     .exact d z (by simp[w])
     .exact JJ hz z (List.mem_reverse.mp w)
    .rw[FX,show Dm (as.map Lf.k).reverse=Dm (as.map Lf.k)from by simp[Dm]];simp only[Kd.parts]at j;lia
theorem Qk(kvs:List (P×P))(k v:P):(dput kvs k v).map (·.1)=if k∈kvs.map (·.1)then kvs.map (·.1)else kvs.map (·.1)++[k]:=by
 by_cases h:(kvs.any λq=>decide (q.1=k))=true
 .rw[HM kvs k v h,iP];rintro⟨q,hq,e⟩:any_eq_true.mp h;exact mem_map.mpr #[q,hq,of_decide_eq_true e]
 .rw[iN,dput,iN h,map_append]
  .rfl
  .intro hm;rintro⟨q,hq,e⟩:mem_map.mp hm;exact h (any_eq_true.mpr #[q,hq,dZ e])
theorem opens{x:Kd}(h:x.ok):∃ns:List Nat,cN (k + 2) 12 [.p x.p]= .ok (.lst true (ns.map λi=>.int (i:Nat)))/\ns.length<=4/\∀i,i∈ns↔Kd.op i∈x.w:=by
 have hw:x.w.length<=4:=M3 h
 obtain ⟨c,e1,ns,rfl,e2⟩:=cw (k:=k + 1) (args:=[.p x.p]) (R:=λc=>∃ns:List Nat,c= .lst true (ns.map λi=>.int (i:Nat))/\ns.length<=4/\∀i,i∈ns↔Kd.op i∈x.w) (gF 11 rfl) (by
  refine Am rfl (EK (λj U=>∃(kvs:List (P×P)) (ns:List Nat) (y:Option C),U=[sP x.p,some (.Bl true kvs),y]/\kvs.map (·.1)=ns.map (λi=>.int (i:Nat))/\ns.length<=j/\∀i,i∈ns↔Kd.op i∈x.w.take j) (BL rfl (within h)) rfl #[[],[],none,rfl,rfl,Nat.le_refl _,by simp] ?_ ?_)
  .rintro j y f _ ⟨kvs,ns,z,rfl,b,hl,a⟩
   rw[List.getElem?_map]at f;rintro⟨d,hd,rfl⟩:oM f;have tk:x.w.take (j+1)=x.w.take j++[d]:=by rw[take_add_one,hd];rfl
   have m:=(List.getElem?_eq_some_iff.mp hd).1;refine#[_,rfl,?_];cases d with
   |mk n as=>exact Ag (bb (d1 rfl rfl)) #[kvs,ns,_,rfl,b,by lia,λi=>by rw[a,tk];simp]
   |op i=>
     have g:kvs.length=ns.length:=by have:=congrArg List.length b;simpa using this
     have By:Bk kvs (.int (i:Nat))=true:=by
      show(true && kvs.all λq=>q.1.tag == 2)=true;rw[Bool.true_and,all_eq_true];intro q hq;have:q.1∈kvs.map (·.1):=mem_map_of_mem hq;rw[b]at this;rintro⟨i,_,e⟩:mem_map.mp this;rw[<-e];rfl
     refine wit (bb (d1 rfl rfl)) (aF (kvs:=kvs) rfl rfl By (by lia) ?_)
     by_cases hm:i∈ns
     .refine#[_,ns,_,rfl,?_,by lia,λl=>?_]
      .rw[Qk,b,iP (show(Kd.op i).p∈_ from mem_map.mpr #[i,hm,rfl])]
      .rw[a l,tk];have:=(a i).mp hm;simp;intro e;subst e;exact this
     .refine#[_,ns++[i],_,rfl,?_,by simp;lia,λl=>?_]
      .rw[Qk,b,iN,map_append]
       .rfl
       .intro z;rintro⟨l,hl,e⟩:mem_map.mp z;cases (show(l:Int)=i from by injection e);exact hm hl
      .rw[tk];simp[a l]
  .rintro _ ⟨kvs,ns,z,rfl,b,hl,a⟩
   rw[lM]at hl a
   exact Ax (d1 rfl (show CP (.Bl false kvs)=some (nw (kvs.map (·.1)))from rfl)) #[ns,by rw[b],by lia,by simpa using a])
 exact#[ns,e1,e2]
theorem below{x:Kd}(h:x.ok){m:Int}(hm:∀i,Kd.op i∈x.w->(i:Int) < m):cN (k + 4) 24 [.p x.p,.p (.int m)]= .ok (bC true):=by
 rintro⟨ns,e,hl,b⟩:opens (k:=k+1) h;refine ce (gF 22 rfl) (Ax (Ea (BL rfl (SV h)) (d1 (XS (λ_=>.bl true) (BL rfl e) rfl (by rw[lM];lia) λy a=>?_) ?_)) rfl)
 .obtain⟨i,hi,rfl⟩:=mem_map.mp a;exact#[_,rfl,_,#[JR (hm i ((b i).mp hi))],rfl]
 .rw[map_map];exact(all_map (λ_=>true) ns).trans (by rw[show ns.all (λ_=>true)=true from all_eq_true.mpr λ_ _=>rfl])
end
theorem aq{p:P}(h:BM p q=true)(hd:p.depth<=90):Xf (.p p) (.p q)=some (decide (p=q)):=by
 show((if BM p q=true/\p.depth<=90 then some (decide (p=q))else none) <|> _)=_;rw[iP #[h,hd]];rfl
theorem eqs :Xf (.p (.str x)) (.p (.str y))=some (decide (x=y)):=by
 rw[aq rfl (Nat.zero_le _)]
 by_cases h:x=y
 .subst h;rw[dZ rfl,dZ rfl]
 .rw[dF h,dF λe=>h (by injection e)]
theorem Bc{x y:Str}(h:decide (x=y)=false:=by kernel_rfl):Bd (.p (.str x)) (.p (.str y))=some (bC false):=by unfold Bd;rw[eqs,h];rfl
theorem eqT :Bd (.p (.str x)) (.p (.str x))=some (bC true):=by unfold Bd;rw[eqs,dZ rfl];rfl
theorem neT{x y:Str}(h:decide (x=y)=false:=by kernel_rfl):Eo (.p (.str x)) (.p (.str y))=some (bC true):=by unfold Eo;rw[eqs,h];rfl
theorem XG :Eo (.p (.str x)) (.p (.str x))=some (bC false):=by unfold Eo;rw[eqs,dZ rfl];rfl
theorem au :Xf (.p (.int i)) (.p (.int j))=some (decide (i=j)):=by
 rw[aq rfl (Nat.zero_le _)]
 by_cases h:i=j
 .subst h;rw[dZ rfl,dZ rfl]
 .rw[dF h,dF λe=>h (by injection e)]
variable{j:Int}
theorem NQ{i:Int}(h:i=j):Eo (.p (.int i)) (.p (.int j))=some (bC false):=by unfold Eo;rw[au,dZ h];rfl
theorem K6{i:Int}(h:i=j):Bd (.p (.int i)) (.p (.int j))=some (bC true):=by unfold Bd;rw[au,dZ h];rfl
section
variable{cf:CF}{U:Env}{t u:T}{c:C}{g:Tg}{ks:Sq}{fr:List (Option Nat)}{xs:List P}
theorem ZN(e:(den cf t).v U= .ok c)(b:ks c=some xs)(hl:xs.length<=100000)(h:∀x∈xs,∃β,Cs g x (AE fr U)=some β/\(den cf u).v β= .ok (bC true)):(den cf (.Ak Ff (.comp g ks t [] u fr))).v U= .ok (bC true):=by
 refine d1 (XS (λ_=>.bl true) e b hl λx a=>let⟨β,e1,e2⟩:=h x a;#[β,e1,_,e2,rfl]) ?_;exact(all_map (λ_=>true) xs).trans (by rw[show xs.all (λ_=>true)=true from all_eq_true.mpr λ_ _=>rfl])
theorem any_map(l:List P)(f:P->Bool):anyC (.lst true (l.map λx=>P.bl (f x)))=some (bC (l.any f)):=by
 show((Cv MV (l.map λx=>P.bl (f x))).map λbs=>bC (bs.any id))=_
 have:Cv MV (l.map λx=>P.bl (f x))=some (l.map f):=by
  induction l with
  |nil=>rfl
  |cons a l b=>show(some (f a)).bind _=_;rw[Option.bind_some,b];rfl
 rw[this,Option.map_some,List.any_map];rfl
theorem av(e:(den cf t).v U= .ok c)(b:ks c=some xs)(hl:xs.length<=100000)(h:∀x∈xs,∃β,Cs g x (AE fr U)=some β/\(den cf u).v β= .ok (bC false)):(den cf (.Ak anyC (.comp g ks t [] u fr))).v U= .ok (bC false):=by
 refine d1 (XS (λ_=>.bl false) e b hl λx a=>let⟨β,e1,e2⟩:=h x a;#[β,e1,_,e2,rfl]) ?_;exact(any_map xs λ_=>false).trans (by rw[show xs.any (λ_=>false)=false from by simp])
end
section
variable{k:Nat}{x:Str}
theorem Et(h:DV x=true):cN (k + 1) 13 [.p (.str x)]= .ok (bC true):=by
 unfold DV at h;split at h
 .cases h
 .rename_i c l a;simp only[great,bA,decide_eq_true_eq]at h;rintro⟨⟨⟨h1,h2⟩,f⟩,e⟩:h;have b:x.cps.toList.length=l.length+1:=by rw[a];rfl
  have hl:=len_str (x:=x) (by lia)
  have d:(C.p (.str x)).Kw =some (sign c::l.map sign):=by
   show(if x.length<=big then some (signs x)else none)=_;rw[iP (show x.length<=big from(by simp[Str.length]at b ⊢;lia:x.length<=100000))];unfold signs;rw[a];rfl
  have e1:M7 (.p (.str x)) (.p (.int 1))=some (.p (.str (sT l))):=by
   show da (some 1) none (.p (.str x))=_;show(if(true && true)=true/\x.length<=big then some (C.p (.str ⟨(cut x.cps.toList (some 1) none).toArray⟩))else none)=_;rw[iP #[rfl,show x.length<=big from(by simp[Str.length]at b ⊢;lia:x.length<=100000)],a];show some (C.p (.str (sT (((c::l).drop (min 1 (l.length+1))).take ((l.length+1)-min 1 (l.length+1))))))=_;rw[Nat.min_eq_left (by lia),drop_one,List.tail_cons,take_of_length_le (by lia)]
  refine ce (gF 12 rfl) (Ag (H8 (bb (d1 rfl rfl))) (Ag (CV (bb (d2 (d1 rfl hl) rfl (FJ (by lia)))) (bb (d2 (d1 rfl hl) rfl (K2 (by lia))))) (Ax (c:=bC true) (Ea ?_ (Ia (x:=sT l) #[e1] (by simp;lia) (by simpa using e))) rfl)));have:=bZ (cf:=cN k) (t:={"A"}) (u:=.A1 Ae {0} {0,0}) (v:={"Z"}) (U:=[sS x]) rfl #[AA (i:=0) (ps:=sign c::l.map sign) d rfl] rfl (G2 65 c) (G2 c 90);rw[dZ h1,dZ h2]at this;exact this
theorem Li{ps:List P}(h:ps.length<=3):cN (k+1) 15 [.p (.tup ps)]= .ok (bC true):=ce (gF 14 rfl) (Ax (Ea (d1 rfl rfl) (d2 (d1 rfl (Av ps)) rfl (WJ (by lia)))) rfl)
theorem Lw{ps:List P}{f:Nat}{cs:List P}(h:ps.length<=3)(hf:∀x∈ps,cN (k + 1) f (.p x::cs.map .p)= .ok (bC true)):cN (k + 2) 16 [.p (.tup ps),.p (.fn f cs)]= .ok (bC true):=
 ce (gF 15 rfl) (Ax (Ea (BL rfl (Li h)) (ZN rfl rfl (by lia) λx a=>#[_,rfl,dz rfl (ar rfl rfl) (hf x a)])) rfl)
theorem HJ{l:List Str}(h:l.length<=3)(c:∀x∈l,Ah x=true):cN (k + 2) 16 [.p (.tup (l.map P.str)),.p (.fn 6 [])]= .ok (bC true):=
 Lw (by simpa using h) λx b=>by rintro⟨y,a,rfl⟩:mem_map.mp b;exact Bf (c y a)
theorem Hy:∀{l:List Str},l.Nodup->AN l=l.length
 |[],_=>rfl
 | x::l,h=>by
   rw[nodup_cons]at h;show(if l.contains x then AN l else AN l+1)=_;rw[iN (by simpa using h.1),Hy h.2];rfl
theorem Oj:∀l:List Str,Cv P.BN (l.map P.str)=some l
 |[]=>rfl
 |x::l=>by show(some x).bind _=_;rw[Option.bind_some,Oj l];rfl
theorem unlike{l:List Str}(h:l.length<=3)(a:∀x∈l,Ah x=true)(hd:l.Nodup):cN (k + 3) 17 [.p (.tup (l.map P.str))]= .ok (bC true):=by
 refine ce (gF 16 rfl) (Ax (Ea (ED rfl rfl (HJ h a)) (d2 (d1 rfl ?_) (d1 rfl (Av _)) (K6 rfl))) rfl);show((Cv P.BN (l.map P.str)).bind λxs=>if xs.length < 4000 then some (C.p (.int (AN xs)))else none)=_;rw[Oj,Option.bind_some,iP (by lia),Hy hd,lM]
theorem P2{ps:List P}(h:1<=ps.length)(h2:ps.length<=4):cN (k+1) 18 [.p (.tup ps)]= .ok (bC true):=ce (gF 17 rfl) (Ax (Ea (d1 rfl rfl) (bZ (a:=true) (b:=true) rfl (d1 rfl (Av ps)) rfl (WJ (by lia)) (WJ (by lia)))) rfl)
theorem Dz{ps:List P}:cN (k + 1) 19 [.p (.tup (.str s::ps))]= .ok (bC true):=
 ce (gF 18 rfl) (Ax (Ea (d1 rfl rfl) (Ea (d2 (d1 rfl (Av _)) rfl (congrArg (λb=>some (bC b)) (dZ (by simp)))) (d1 #[#[0]] rfl))) rfl)
end
inductive Ex where
 |num (i:Int)|Lu (f:Str)|call (d:Str)|name (n:Str)
abbrev Zg(i:Int):P:=.tup [.str "number",.int i]
def Ex.p:Ex->P
 |.num i=>Zg i
 |.Lu f=>.tup [.str "form",.str f,.tup []]
 |.call d=>.tup [.str "call",.str d,.tup [Zg 1]]
 |.name n=>.tup [.str "name",.str n]
def Ex.ok:Ex->Prop
 |.num i=>-10 ^ 60 < i/\i < 10 ^ 60
 |.Lu f=>DV f=true
 |.call d=>Ah d=true
 |.name n=>Ah n=true
inductive Row where
 |kind (n:Str)(m:Nat)(fs:List (Str×List Kd))|cls (n:Str)(l:List Str)|Ba (n c:Str)(ks:List Kd)(r:Kd)|Af (c q:Str)(l:List (Option Str))
 |once (d:Str)(n:Nat)(e:Ex)|CS (c q d:Str)(n:Nat)(e:Ex)|ask (e:Ex)
def Jl(n:Nat):List Str:=(["u","v","w"]:List Str).take n
def oP:Option Str->P
 |some x=>.str x
 |none=>.AG
def fP(f:Str×List Kd):P:=.tup [.str f.1,.tup (f.2.map Kd.p)]
noncomputable def Row.p:Row->P
 |.kind n m fs=>.tup [.str "kind",.str n,.int m,.tup (fs.map fP)]
 |.cls n l=>.tup [.str "class",.str n,.tup (l.map P.str)]
 |.Ba n c ks r=>.tup [.str "deed",.str n,.str c,.tup (ks.map Kd.p),r.p]
 |.Af c q l=>.tup [.str "house",.str c,.str q,.tup (l.map oP)]
 |.once d n e=>.tup [.str "once",.str d,.tup ((Jl n).map P.str),e.p]
 |.CS c q d n e=>.tup [.str "does",.str c,.str q,.str d,.tup ((Jl n).map P.str),e.p]
 |.ask e=>.tup [.str "ask",e.p]
def Kd.lt(m:Nat)(k:Kd):Prop:=k.ok/\∀i,Kd.op i∈k.w->i < m
noncomputable def Row.ok:Row->Prop
 |.kind n m fs=>Ah n=true/\m<=3/\1<=fs.length/\fs.length<=4/\∀f∈fs,DV f.1=true/\f.2.length<=3/\∀k∈f.2,k.lt m
 |.cls n l=>Ah n=true/\l.length<=3/\∀e∈l,Ah e=true
 |.Ba n c ks r=>Ah n=true/\Ah c=true/\ks.length<=3/\(∀k∈ks,k.lt 1)/\r.lt 1
 |.Af c q l=>Ah c=true/\Ah q=true/\l.length<=3/\∀e,some e∈l->Ah e=true
 |.once d _ e=>Ah d=true/\e.ok
 |.CS c q d _ e=>Ah c=true/\Ah q=true/\Ah d=true/\e.ok
 |.ask e=>e.ok
section
variable{k:Nat}
theorem Wu(h:(Ex.num i).ok):cN (k + 2) 14 [.p (.int i)]= .ok (bC true):=by
 refine ce (gF 13 rfl) (Ax (Ea (BL rfl GD) (d2 (d1 rfl (show He TQ (.p (.int i))=some (.p (.int (if i < 0 then -i else i)))from rfl)) #[show Aw JH (.p (.int 10)) (.p (.int 60))=some (.p (.int (10 ^ 60)))from rfl] (JR ?_))) rfl);have:=h.1;have:=h.2;split<;>lia
theorem Sr{e:Ex}(h:e.ok):cN (k + 3) 21 [.p e.p]= .ok (bC true):=by
 cases e with
 |num i=>exact ce (gF 19 rfl) (Ag (H8 (bb (BL rfl Dz))) (Am #[#[0]] (wit (bb #[eqT]) (Ax (Ea (d2 (d1 rfl (Av _)) rfl (K6 rfl)) (BL #[#[1]] (Wu h))) rfl))))
 |name n=>exact ce (gF 19 rfl) (Ag (H8 (bb (BL rfl Dz))) (Am #[#[0]] (Ag (bb #[Bc]) (wit (bb #[eqT]) (Ax (Ea (d2 (d1 rfl (Av _)) rfl (K6 rfl)) (BL #[#[1]] (Bf h))) rfl)))))
 |Lu n=>exact ce (gF 19 rfl) (Ag (H8 (bb (BL rfl Dz))) (Am #[#[0]] (Ag (bb #[Bc]) (Ag (bb #[Bc]) (Ag (bb (d2 (d1 rfl (Av _)) rfl (NQ rfl))) (wit (bb #[eqT]) (Ax (Ea (BL #[#[1]] (Et h)) (BL #[#[2]] (Li #[]))) rfl)))))))
 |call n=>exact ce (gF 19 rfl) (Ag (H8 (bb (BL rfl Dz))) (Am #[#[0]] (Ag (bb #[Bc]) (Ag (bb #[Bc]) (Ag (bb (d2 (d1 rfl (Av _)) rfl (NQ rfl))) (Ag (bb #[Bc]) (wit (bb #[eqT]) (Ax (Ea (BL #[#[1]] (Bf h)) (BL #[#[2]] (Li #[]))) rfl))))))))
def Ex.parts:Ex->List Ex
 |.call _=>[.num 1]
 |_=>[]
theorem Na(e:Ex):cN (k + 1) 22 [.p e.p]= .ok (.lst true (e.parts.map Ex.p)):=by
 cases e with
 |num i=>exact ce (gF 20 rfl) (Ag (CV (bb (d2 #[#[0]] rfl Bc)) (bb (d2 #[#[0]] rfl Bc))) (Ag (bb (d2 #[#[0]] rfl Bc)) (Ax (dl rfl) rfl)))
 |name i=>exact ce (gF 20 rfl) (Ag (CV (bb (d2 #[#[0]] rfl Bc)) (bb (d2 #[#[0]] rfl Bc))) (Ag (bb (d2 #[#[0]] rfl Bc)) (Ax (dl rfl) rfl)))
 |Lu i=>exact ce (gF 20 rfl) (wit (QA (bb (d2 #[#[0]] rfl eqT))) (Ax (d1 #[#[2]] rfl) rfl))
 |call i=>exact ce (gF 20 rfl) (wit (CV (bb (d2 #[#[0]] rfl Bc)) (bb (d2 #[#[0]] rfl eqT))) (Ax (d1 #[#[2]] rfl) rfl))
theorem So:(Ex.num 1).ok:=#[by decide,by decide]
def wP(q:Ex×Nat):P:=.tup [q.1.p,.int q.2]
theorem IZ{e:Ex}(h:e.ok):cN (k + 4) 23 [.p e.p]= .ok (bC true):=by
 refine ce (gF 21 rfl) (Am (dl (fz (dt (fz rfl (fz rfl rfl))) rfl)) (Am rfl (ae (λm U=>∃(ws:List (Ex×Nat)) (c:Nat) (y z u:Option C),U=[sP e.p,sL true (ws.map wP),sI c,y,z,u]/\(∀q∈ws,q.1.ok/\q.2<=1/\(q.2=1->q.1.parts=[]))/\m=2-c/\(ws=[]\/(ws.length=1/\c<=1/\∀q∈ws,q.2=c))) (n:=2) #[[(e,0)],0,none,none,none,rfl,λq hq=>by rw[mE hq];exact#[h,Nat.zero_le _,λz=>by cases z],rfl,.inr #[rfl,by decide,λq hq=>by rw[mE hq]]] ?_)))
 rintro m _ ⟨ws,c,y,z,u,rfl,g,rfl,f⟩
 rcases f with rfl|⟨h1,h2,l⟩
 .exact .inl #[bv rfl,Ax rfl rfl]
 .obtain⟨⟨x,a⟩,rfl⟩:=List.length_eq_one_iff.mp h1;rintro⟨o1,o2,o3⟩:g (x,a) (by simp);cases (show a=c from l (x,a) (by simp));refine .inr #[bv (c:=.lst false [wP (x,c)]) rfl,Am #[show Ad (.p (.int c)) (.p (.int 1))=some (.p (.int ((c+1:Nat):Int)))from rfl] (af #[] (ps:=[]) (p:=wP (x,c)) (Am #[AA (i:=0) (ps:=[x.p,.int c]) rfl rfl] (Am #[AA (i:=1) (ps:=[x.p,.int c]) rfl rfl] (Ag (CV (bb #[K2 (i:=((c+1:Nat):Int)) (j:=40) (by lia)]) (CV (bb #[K2 (i:=(c:Int)) (j:=11) (by lia)]) (H8 (bb (BL rfl (Sr o1)))))) (XC (ps:=[]) (XS (λy=>.tup [y,.int ((c+1:Nat):Int)]) (BL rfl (Na x)) rfl (by cases x<;>exact Nat.le_of_ble_eq_true rfl) λy b=>#[_,rfl,_,dt (fz rfl (fz #[rfl] rfl)),rfl]) rfl (by cases x<;>exact Nat.le_of_ble_eq_true rfl) #[2-(c+1),by lia,x.parts.map λy=>(y,c+1),c+1,sP (wP (x,c)),sP x.p,sI c,?_,?_,rfl,?_])))) rfl)]
  .rw[map_map,map_map];rfl
  .intro q hq;rintro⟨y,b,rfl⟩:mem_map.mp hq;cases x with
   |call d=>
     cases mE b;rcases Nat.eq_zero_or_pos c with rfl|f
     .exact#[So,Nat.le_refl _,λ_=>rfl]
     .cases (o3 (show c=1 by lia))
   |_=>cases b
  .cases x with
   |call d=>
     rcases Nat.eq_zero_or_pos c with rfl|o
     .exact .inr #[rfl,by decide,λq hq=>by rw[mE hq]]
     .cases (o3 (show c=1 by lia))
   |_=>exact .inl rfl
end
section
variable{k:Nat}
theorem fB{cf:CF}{f l:Nat}{EM:List Nat}{ps:List P}{b:Bool}(e:(den cf t).v U= .ok x)(a:NH U EM=some ps)(h:cf f [x,.p (.fn l ps)]= .ok (bC b)):(den cf (.Ki f t l EM)).v U= .ok (bC b):=by
 show((den cf t).v U).bind (λx=>(Res.of (NH U EM)).bind λps=>(cf f [x,.p (.fn l ps)]).bind λc=>(Res.of c.EN).bind λb=>.ok (C.p (.bl b)))=_;rw[e,a];show(cf f [x,.p (.fn l ps)]).bind _=_;rw[h];rfl
theorem HK{ks:List Kd}{m:Nat}(h:ks.length<=3)(b:∀x∈ks,x.lt m):cN (k + 7) 25 [.p (.tup (ks.map Kd.p)),.p (.int m)]= .ok (bC true):=
 ce (gF 23 rfl) (Ax (fB (ps:=[.int m]) rfl rfl (Lw (by simpa using h) λx c=>by
  rintro⟨y,a,rfl⟩:mem_map.mp c
  exact ce (gF 79 rfl) (Ax (ED rfl rfl (below (b y a).1 λi hi=>by exact_mod_cast (b y a).2 i hi)) rfl))) rfl)
theorem T6{f:Str×List Kd}{m:Nat}(h:DV f.1=true/\f.2.length<=3/\∀k∈f.2,k.lt m):cN (k + 8) 26 [.p (fP f),.p (.int m)]= .ok (bC true):=
 ce (gF 24 rfl) (Ag (CV (H8 (bb (d1 rfl rfl))) (bb (d2 (d1 rfl (Av _)) rfl (NQ rfl)))) (Ax (Ea (BL #[#[0]] (Et h.1)) (ED #[#[1]] rfl (HK h.2.1 h.2.2))) rfl))
theorem Sw{o:Option Str}(h:∀e,o=some e->Ah e=true):cN (k + 2) 29 [.p (oP o)]= .ok (bC true):=by
 cases o with
 |none=>exact ce (gF 27 rfl) (Ax (dX #[rfl]) rfl)
 |some x=>exact ce (gF 27 rfl) (Ax (aI #[rfl] (BL rfl (Bf (h x rfl)))) rfl)
theorem Ku(n:Nat):(Jl n).length<=3/\(∀x∈Jl n,Ah x=true)/\(Jl n).Nodup:=by
 have b:∀x∈(["u","v","w"]:List Str),Ah x=true:=by decide +kernel
 refine#[?_,λx a=>b x (mem_of_mem_take a),List.Nodup.sublist (List.take_sublist _ _) (by decide +kernel)];unfold Jl;rw[length_take];exact Nat.min_le_right _ _
theorem LW(n:Nat):cN (k+3) 17 [.p (.tup ((Jl n).map P.str))]= .ok (bC true):=let⟨a,b,c⟩:=Ku n;unlike a b c
theorem rw_hd{ps:List P}(h:WP ((k + 1)<<<(dU.drop 2)>>>[sP (.tup (.str s::ps)),sS s]) (λ_=>bC true= .p .AG) (λd=>bC true=d))(h1:Ey (.Bl false SH) (.p (.str s))=some (.p (.int n)):=by kernel_rfl)(h2:n=((ps.length + 1:Nat):Int):=by rfl):cN (k + 2) 31 [.p (.tup (.str s::ps))]= .ok (bC true):=
 ce (gF 29 rfl) (Ag (CV (H8 (bb (BL rfl Dz))) (bb (d2 (d2 rfl #[#[0]] h1) (d1 rfl (Av _)) (NQ h2)))) (Am #[#[0]] h))
theorem VL{r:Row}(h:r.ok):cN (k + 10) 31 [.p r.p]= .ok (bC true):=by
 cases r with
 |kind n m fs=>
   rintro⟨h1,h2,g,b,s⟩:h
   exact rw_hd (wit (bb #[eqT]) (Ax (BL rfl (ce (gF 25 rfl) (Am #[#[2]] (Ag (CV (H8 (bb (BL #[#[1]] (Bf h1)))) (CV (H8 (bb (BL rfl GD))) (CV (bb #[FJ (by lia)]) (bb #[K2 (by lia)])))) (Ax (c:=bC true) (Ea (BL #[#[3]] (P2 (by simpa using g) (by simpa using b))) (ZN #[#[3]] rfl (by simp;lia) λx a=>by
    rintro⟨f,hf,rfl⟩:mem_map.mp a
    exact#[_,rfl,ED rfl rfl (T6 (s f hf))])) rfl))))) rfl))
 |cls n l=>exact rw_hd (Ag (bb #[Bc]) (wit (bb #[eqT]) (Ax (Ea (BL #[#[1]] (Bf h.1)) (ED #[#[2]] rfl (HJ h.2.1 h.2.2))) rfl)))
 |Ba n c ks r=>
   rintro⟨h1,h2,g,b,s⟩:h;exact rw_hd (Ag (bb #[Bc]) (Ag (bb #[Bc]) (wit (bb #[eqT]) (Ax (BL rfl (ce (gF 26 rfl) (Ax (Ea (BL #[#[1]] (Bf h1)) (Ea (BL #[#[2]] (Bf h2)) (Ea (ED #[#[3]] rfl (HK (m:=1) g b)) (ED #[#[4]] rfl (below s.1 λi hi=>by exact_mod_cast s.2 i hi))))) rfl))) rfl))))
 |Af c q l=>
   rintro⟨h1,h2,g,b⟩:h
   exact rw_hd (Ag (bb #[Bc]) (Ag (bb #[Bc]) (Ag (bb #[Bc]) (wit (bb #[eqT]) (Ax (Ea (BL #[#[1]] (Bf h1)) (Ea (BL #[#[2]] (Bf h2)) (ED #[#[3]] rfl (Lw (by simpa using g) λx a=>by
    rintro⟨o,t,rfl⟩:mem_map.mp a
    exact Sw λe he=>b e (he▸t))))) rfl)))))
 |ask e=>exact rw_hd (Ag (bb #[Bc]) (Ag (bb #[Bc]) (Ag (bb #[Bc]) (Ag (bb #[Bc]) (wit (bb #[eqT]) (Ax (BL #[#[1]] (IZ h)) rfl))))))
 |once d n e=>exact rw_hd (Ag (bb #[Bc]) (Ag (bb #[Bc]) (Ag (bb #[Bc]) (Ag (bb #[Bc]) (Ag (bb #[Bc]) (Ax (BL rfl (ce (gF 28 rfl) (Ax (c:=bC true) (Ea (ZN (xs:=[.str d]) (d3 rfl rfl (d1 rfl rfl) rfl) rfl (Nat.le_of_ble_eq_true rfl) λx a=>by
  cases mE a
  exact#[_,rfl,BL rfl (Bf h.1)]) (Ea (BL (d2 rfl (d1 rfl rfl) rfl) (LW n)) (BL (d2 rfl (d1 rfl rfl) rfl) (IZ h.2)))) rfl))) rfl))))))
 |CS c q d n e=>exact rw_hd (Ag (bb #[Bc]) (Ag (bb #[Bc]) (Ag (bb #[Bc]) (Ag (bb #[Bc]) (Ag (bb #[Bc]) (Ax (BL rfl (ce (gF 28 rfl) (Ax (c:=bC true) (Ea (ZN (xs:=[.str c,.str q,.str d]) (d3 rfl rfl (d1 rfl rfl) rfl) rfl (Nat.le_of_ble_eq_true rfl) λx a=>by
  simp only[mem_cons,not_mem_nil,or_false]at a;rcases a with rfl|rfl|rfl
  .exact#[_,rfl,BL rfl (Bf h.1)]
  .exact#[_,rfl,BL rfl (Bf h.2.1)]
  .exact#[_,rfl,BL rfl (Bf h.2.2.1)]) (Ea (BL (d2 rfl (d1 rfl rfl) rfl) (LW n)) (BL (d2 rfl (d1 rfl rfl) rfl) (IZ h.2.2.2)))) rfl))) rfl))))))
end
theorem add_l{o o':Bool}{a b:List P}(h:(a++b).length<=100000):Ad (.lst o a) (.lst o' b)=some (.lst true (a++b)):=by
 show((if(a++b).length<=big then some (a++b)else none).map nw)=_;rw[iP (show(a++b).length<=big from h)];rfl
theorem G4{ps:List P}{i:Nat}{x:P}(h:(DW ps)[i]? =some x):∃y,ps[i]? =some y/\x= .tup [.int (i:Nat),y]:=by
 unfold DW at h;rw[List.getElem?_map,List.getElem?_zipIdx]at h;rintro⟨q,h1,rfl⟩:oM h;rintro⟨y,h2,rfl⟩:oM h1;exact#[y,h2,by simp]
variable{rs:List Row}
theorem checked{k:Nat}(h:∀r∈rs,r.ok)(hl:rs.length<=40):cN (k + 11) 32 [.lst false (rs.map Row.p)]= .ok (.lst true (rs.map Row.p)):=by
 refine ce (gF 30 rfl) (Ag (CV (H8 (bb (d1 rfl rfl))) (bb (d2 (d1 rfl rfl) rfl (K2 (by simp;lia))))) (R9 (λ_ U=>∃y z,U=[sL false (rs.map Row.p),y,z]) rfl rfl #[none,none,rfl] ?_ ?_))
 .rintro j x a _ ⟨y,z,rfl⟩
  rintro⟨w,hw,rfl⟩:G4 a;rw[List.getElem?_map]at hw;rintro⟨r,b,rfl⟩:oM hw;exact#[_,rfl,Ag (H8 (bb (BL rfl (VL (h r (mem_of_getElem? b)))))) #[_,_,rfl]]
 .rintro _ ⟨y,z,rfl⟩
  exact Ax (d1 rfl rfl) rfl
abbrev kP(y:List Str):P:=.tup (y.map P.str)
def told:Row->List (List Str)
 |.kind n _ fs=>["kind",n]::fs.map λf=>["form",f.1]
 |.cls n _=>[["class",n]]
 |.Ba n _ _ _=>[["function",n]]
 |.Af c q _=>[["house",c,q]]
 |.once d _ _=>[["once",d]]
 |.CS c q d _ _=>[["does",c,q,d]]
 |.ask _=>[]
section
variable{k:Nat}
theorem Ih{r:Row}(h:∀n m fs,r= .kind n m fs->fs.length<=4):cN (k + 1) 33 [.p r.p]= .ok (.lst true ((told r).map kP)):=by
 cases r with
 |kind n m fs=>
   have hl:=h n m fs rfl;refine ce (gF 31 rfl) (Am #[#[0]] (wit (bb #[eqT]) (Ax (d2 (dl (fz (dt (fz rfl (fz #[#[1]] rfl))) rfl)) (XS (xs:=fs.map fP) (λx=>.tup [.str "form",((x.CL.getD []).headD .AG)]) #[#[3]] rfl (by simp;lia) λx a=>?_) (show Ad (.lst true [kP ["kind",n]]) (.lst true ((fs.map fP).map λx=>.tup [.str "form",((x.CL.getD []).headD .AG)]))=some (.lst true ((told (.kind n m fs)).map kP))from ?_)) rfl)))
   .obtain⟨f,hf,rfl⟩:=mem_map.mp a;exact#[_,rfl,_,dt (fz rfl (fz #[#[0]] rfl)),rfl]
   .rw[add_l (by simp;lia),map_map];show some (nw (kP ["kind",n]::fs.map _))=some (.lst true (kP ["kind",n]::(fs.map λf=>([("form":Str),f.1]:List Str)).map kP));rw[map_map];rfl
 |cls n l=>exact ce (gF 31 rfl) (Am #[#[0]] (Ag (bb #[Bc]) (wit (bb #[eqT]) (Ax (dl (fz (dt (fz rfl (fz #[#[1]] rfl))) rfl)) rfl))))
 |Ba n c ks r=>exact ce (gF 31 rfl) (Am #[#[0]] (Ag (bb #[Bc]) (Ag (bb #[Bc]) (wit (QA (bb #[eqT])) (Ax (dl (fz (dt (fz rfl (fz #[#[1]] rfl))) rfl)) rfl)))))
 |once d n e=>exact ce (gF 31 rfl) (Am #[#[0]] (Ag (bb #[Bc]) (Ag (bb #[Bc]) (Ag (CV (bb #[Bc]) (bb #[Bc])) (wit (bb #[eqT]) (Ax (dl (fz (dt (fz rfl (fz #[#[1]] rfl))) rfl)) rfl))))))
 |Af c q l=>exact ce (gF 31 rfl) (Am #[#[0]] (Ag (bb #[Bc]) (Ag (bb #[Bc]) (Ag (CV (bb #[Bc]) (bb #[Bc])) (Ag (bb #[Bc]) (wit (bb #[eqT]) (Ax (dl (fz (dt (fz rfl (fz #[#[1]] (fz #[#[2]] rfl)))) rfl)) rfl)))))))
 |CS c q d n e=>exact ce (gF 31 rfl) (Am #[#[0]] (Ag (bb #[Bc]) (Ag (bb #[Bc]) (Ag (CV (bb #[Bc]) (bb #[Bc])) (Ag (bb #[Bc]) (Ag (bb #[Bc]) (wit (bb #[eqT]) (Ax (dl (fz (dt (fz rfl (fz #[#[1]] (fz #[#[2]] (fz #[#[3]] rfl))))) rfl)) rfl))))))))
 |ask e=>exact ce (gF 31 rfl) (Am #[#[0]] (Ag (bb #[Bc]) (Ag (bb #[Bc]) (Ag (CV (bb #[Bc]) (bb #[Bc])) (Ag (bb #[Bc]) (Ag (bb #[Bc]) (Ag (bb #[Bc]) (Ax (dl rfl) rfl))))))))
end
theorem PN{a b:List Str}(h:kP a=kP b):a=b:=by
 have h:a.map P.str=b.map P.str:=by injection h
 exact List.map_inj_right (λx y e=>by injection e) |>.mp h
structure Do(L:List (List Str×P))(kvs:List (P×P)):Prop where
 g:∀y,CT kvs (kP y)=L.lookup y
 t:∀q∈kvs,q.1.tag=4
 l:kvs.length<=L.length
theorem LD:Do [] []:=#[λ_=>rfl,λq h=>(by cases h),Nat.le_refl _]
variable{L:List (List Str×P)}
theorem Do.By{kvs:List (P×P)}(d:Do L kvs)(y:List Str):Bk kvs (kP y)=true:=by
 unfold Bk;rw[bA,all_eq_true];refine#[?_,λq hq=>by rw[d.t q hq];rfl];show(y.map P.str).all (λp=>p.tag == 3)=true;rw[all_eq_true];intro p a;rintro⟨s,_,rfl⟩:mem_map.mp a;rfl
theorem Qc(kvs:List (P×P))(k v a:P):(kvs.map λq=>if q.1=k then(q.1,v)else q).find? (λq=>decide (q.1=a))=(kvs.find? λq=>decide (q.1=a)).map λq=>if q.1=k then(q.1,v)else q:=by
 rw[List.find?_map]
 congr 1
 congr 1
 funext q
 show decide ((if q.1=k then(q.1,v)else q).1=a)=_;split<;>rfl
theorem Ql(kvs:List (P×P))(k v a:P):CT (dput kvs k v) a=if a=k then some v else CT kvs a:=by
 unfold CT dput
 by_cases h:(kvs.any λq=>decide (q.1=k))=true
 .rw [iP h,Qc];cases e:kvs.find? λq=>decide (q.1=a)with
  |none=>
    rw[iN]
    .rfl
    .intro z;subst z;rintro⟨q,hq,e1⟩:any_eq_true.mp h;exact absurd e1 (by simpa using List.find?_eq_none.mp e q hq)
  |some q=>
    have e1:q.1=a:=of_decide_eq_true (List.find?_some (p:=λq:P×P=>decide (q.1=a)) e)
    by_cases h2:a=k
    .rw[iP h2];show some (if q.1=k then(q.1,v)else q).2=_;rw[iP (e1.trans h2)]
    .rw[iN h2];show some (if q.1=k then(q.1,v)else q).2=_;rw[iN λz=>h2 (e1.symm.trans z)];rfl
 .rw[iN h,List.find?_append]
  by_cases h2:a=k
  .subst h2;rw[iP rfl,show kvs.find? (λq=>decide (q.1=a))=none from List.find?_eq_none.mpr λq hq z=>h (any_eq_true.mpr #[q,hq,z])];simp
  .rw[iN h2];have:([(k,v)]:List (P×P)).find? (λq=>decide (q.1=a))=none:=List.find?_eq_none.mpr λq hq z=>h2 (by rw[mE hq]at z;exact(of_decide_eq_true z).symm)
   rw[this,Option.or_none]
theorem NC(kvs:List (P×P))(k v:P):(dput kvs k v).length<=kvs.length+1:=GO kvs k v
theorem Do.put{kvs:List (P×P)}{y:List Str}{v:P}(d:Do L kvs)(a:y∉L.map (·.1)):Do (L++[(y,v)]) (dput kvs (kP y) v):=by
 refine#[λz=>?_,λq hq=>?_,?_]
 .rw[Ql,List.lookup_append]
  by_cases h:z=y
  .subst h;rw[iP rfl,show L.lookup z=none from lookup_eq_none_iff.mpr λq hq=>by simpa using λe=>a (mem_map.mpr #[q,hq,e.symm])];simp
  .rw[iN λe=>h (PN e),d.g z];have:([(y,v)]:List (List Str×P)).lookup z=none:=lookup_eq_none_iff.mpr λq hq=>by rw[mE hq];simpa using h
   rw[this,Option.or_none]
 .rcases K7 hq with⟨p,b,e⟩|e
  .rw[e];exact d.t p b
  .rw[e];rfl
 .have:=NC kvs (kP y) v;have:=d.l;simp;lia
section
variable{cf:CF}{U:Env}{ts:List T}{c c':C}{cs:List C}{ss:List S}{N:Env->Prop}{R:C->Prop}
theorem cP{i f:Nat}(d:A8 U i=some c)(k:c.Jd=true)(e:BK cf ts U= .ok cs)(b:cs.all C.WX=true)(g:cf f (c::cs)= .ok c')(a:c'.Jd=true)(h:WP (execs cf As ss (U.set i (some c'))) N R):WP (execs cf As (.HS i f ts::ss) U) N R:=by
 refine Y8 (U':=U.set i (some c')) ?_ h
 show(match A8 U i with
  |some c=>if c.Jd then(BK cf ts U).fl λcs=>if cs.all C.WX then(cf f (c::cs)).fl λc'=>if c'.Jd then Fl.nx (U.set i (some c'))else .stuck else .stuck else .stuck
  |none=>.stuck)=_
 rw[d,e];show(if c.Jd then(if cs.all C.WX then(cf f (c::cs)).fl λc'=>if c'.Jd then Fl.nx (U.set i (some c'))else .stuck else .stuck)else .stuck)=_;rw[iP k,iP b,g];exact iP a
theorem cm{f np nl k:Nat}{B:List S}{args:List C}(h:fns[f]? =some #[np,nl,true,B])(e:WP (k<<<B>>>(args.map some++List.replicate (nl - np) none)) (λU=>∃c,A8 U 0=some c/\c.own=true/\R c) (λ_=>False))(hl:args.length=np:=by rfl)(h0:(CD B).contains 0=false:=by rfl):∃c,cN (k + 1) f args= .ok c/\R c:=by
 have e1:cN (k + 1) f args=Cu (cN k) As #[np,nl,true,B] args:=by
  show(match fns[f]? with|some fi=>Cu (cN k) As fi args|none=>.stuck)=_;rw[h]
 have e2:Cu (cN k) As #[np,nl,true,B] args=match execs (cN k) As B (args.map some++List.replicate (nl - np) none)with| .nx U=>C.got (A8 U 0)|_=>.stuck:=by
  unfold Cu;rw[iP hl,iP rfl,iN (by rw[h0];exact Bool.false_ne_true)]
  all_goals rfl
 rw[e1,e2];cases a:k<<<B>>>(args.map some++List.replicate (nl-np) none)with
 |nx U=>
   rw[a]at e;rintro⟨c,h1,h2,b⟩:e;refine#[c,?_,b];show C.got (A8 U 0)=_;rw[h1];exact iP h2
 |_=>rw[a]at e;exact e.elim
end
def own:List Row:=[.kind "whole" 0 [],.kind "truth" 0 [("No",[]),("Yes",[])]]
abbrev lo(o:Bool)(rs:List Row)(tel num:List (P×P)):C:=.obj o [.p (.box 0 (rs.map Row.p)),.d tel,.d num]
def ent(v:P)(y:List Str):List Str×P:=(y,v)
def NB(x:Row):List (List Str×P):=(told x).map (ent x.p)
def MX(rs:List Row):List (List Str×P):=(own++rs).flatMap NB
def En(rs:List Row):List (List Str×P):=rs.zipIdx.flatMap λq=>(told q.1).map (ent (.int (q.2:Nat)))
theorem DL(v:P)(l:List (List Str)):(l.map (ent v)).map (·.1)=l:=by rw[map_map];exact List.map_id' l
theorem F7(xs:List Row):(xs.flatMap NB).map (·.1)=xs.flatMap told:=by
 rw[map_flatMap];exact congrArg (xs.flatMap ·) (funext λx=>DL _ _)
theorem DH(xs:List Row):((xs.zipIdx.flatMap λq=>(told q.1).map (ent (.int (q.2:Nat))))).map (·.1)=xs.flatMap told:=by
 rw[map_flatMap]
 have:∀(xs:List Row) n,((xs.zipIdx n).flatMap λq=>((told q.1).map (ent (.int (q.2:Nat)))).map (·.1))=xs.flatMap told:=by
  intro xs
  induction xs with
  |nil=>intro n;rfl
  |cons x xs a=>intro n;rw[zipIdx_cons,flatMap_cons,flatMap_cons,a,DL]
 exact this xs 0
section
variable{k:Nat}{rs:List Row}{tel num:List (P×P)}{L:List (List Str×P)}
theorem J1{kvs:List (P×P)}{y:List Str}{l:List (List Str)}{j:Nat}(d:Do (L++(l.take j).map (ent v)) kvs)(b:l[j]? =some y)(nd:(L.map (·.1)++l).Nodup):Do (L++(l.take (j + 1)).map (ent v)) (dput kvs (kP y) v):=by
 rw[take_add_one,b,Option.toList_some,map_append,<-append_assoc];refine d.put λh=>?_
 rw[map_append,DL]at h;rcases mZ h with h|h
 .rw[nodup_append]at nd;exact nd.2.2 y h y (mem_of_getElem? b) rfl
 .have a:=(nodup_append.mp nd).2.1;rw[<-take_append_drop j l,nodup_append]at a;exact a.2.2 y h y (mem_of_getElem? (i:=0) (by rw[List.getElem?_drop];simpa using b)) rfl
theorem HG{r:Row}(f:∀n m fs,r= .kind n m fs->fs.length<=4)(d:Do L tel)(nd:(L.map (·.1)++told r).Nodup)(o:L.length<=1000):∃a,Do (L++NB r) a/\cN (k + 2) 70 [lo true rs tel num,.p r.p]= .ok (lo true rs a num):=by
 have i:(told r).length<=5:=by
  cases r with
  |kind n m fs=>have:=f n m fs rfl;simp[told];lia
  |_=>exact Nat.le_of_ble_eq_true rfl
 rintro⟨c,e,a,rfl,h⟩:cm (k:=k + 1) (args:=[lo true rs tel num,.p r.p]) (R:=λc=>∃a,c=lo true rs a num/\Do (L++NB r) a) (gF 68 rfl) (by
  refine EK (λj U=>∃tel y,U=[some (lo true rs tel num),sP r.p,y]/\Do (L++((told r).take j).map (ent r.p)) tel) (BL rfl (Ih f)) rfl #[tel,none,rfl,by simpa using d] ?_ ?_
  .rintro j x b _ ⟨tel,y,rfl,d⟩
   rw[List.getElem?_map]at b;rintro⟨y,g,rfl⟩:oM b;have:=d.l;exact#[_,rfl,cO (kvs:=tel) rfl rfl rfl (d.By y) (by simp at this;lia) #[_,_,rfl,J1 d g nd]]
  .rintro _ ⟨tel,y,rfl,d⟩
   rw[lM,take_length]at d
   exact#[_,rfl,rfl,tel,rfl,d])
 exact#[a,h,e]
theorem Ed{r:Row}(h:r.ok):∀n m fs,r= .kind n m fs->fs.length<=4:=λn m fs e=>by subst e;exact h.2.2.2.1
theorem Ee{r:Row}(h:∀n m fs,r= .kind n m fs->fs.length<=4):(told r).length<=5:=by
 cases r with
 |kind n m fs=>have:=h n m fs rfl;simp[told];lia
 |_=>exact Nat.le_of_ble_eq_true rfl
theorem IV:∀{xs:List Row},(∀r∈xs,(told r).length<=5)->(xs.flatMap told).length<=5 * xs.length
 |[],_=>Nat.le_refl _
 |x::xs,h=>by have:=h x (by simp);have:=IV λr a=>h r (mem_cons_of_mem _ a);rw[flatMap_cons,lA,lC];lia
theorem init(B:∀r∈rs,r.ok)(hl:rs.length<=40)(nd:((own++rs).flatMap told).Nodup)(look:∀tel num,Do (MX rs) tel->Do (En rs) num->cN (k + 11) 49 [lo false rs tel num]= .ok (.p .AG)):
 ∃tel num,Do (MX rs) tel/\Do (En rs) num/\cN (k+12) 69 [.obj true [],.lst true (rs.map Row.p)]= .ok (lo true rs tel num):=by
 have v:∀r∈own++rs,∀n m fs,r= .kind n m fs->fs.length<=4:=λr h=>by
  rcases mZ h with h|h
  .simp only[own,mem_cons,not_mem_nil,or_false]at h;rcases h with rfl|rfl<;>(intro n m fs e;cases e;exact Nat.le_of_ble_eq_true rfl)
  .exact Ed (B r h)
 have t:∀j r,(own++rs)[j]? =some r->(((own++rs).take j).flatMap told++told r).Nodup/\(((own++rs).take j).flatMap told).length<=500:=λj r f=>by
  have A:=List.getElem?_eq_some_iff.mp f
  have e:own++rs=(own++rs).take j++r::(own++rs).drop (j + 1):=by
   conv=>lhs;rw[<-take_append_drop j (own++rs),drop_eq_getElem_cons A.1,A.2]
  have g:=nd;rw[e,flatMap_append,flatMap_cons,<-append_assoc,nodup_append]at g;refine#[g.1,Nat.le_trans (IV λr h=>Ee (v r (mem_of_mem_take h))) ?_];have:((own++rs).take j).length<=42:=by rw[length_take,lA];have:own.length=2:=rfl;lia
  lia
 obtain ⟨c,e,tel,num,rfl,h1,h2⟩:=cm (k:=k + 11) (args:=[.obj true [],.lst true (rs.map Row.p)]) (R:=λc=>∃tel num,c=lo true rs tel num/\Do (MX rs) tel/\Do (En rs) num) (gF 67 rfl) (by
  refine NT (ar (BL rfl (checked B hl)) rfl) rfl (NT (ar (d1 rfl rfl) rfl) rfl (NT (ar (d1 rfl rfl) rfl) rfl (EK (xs:=own.map Row.p) (λj U=>∃tel y,U=[some (lo true rs tel []),sL true (rs.map Row.p),y,none,none]/\Do ((own.take j).flatMap NB) tel) rfl rfl #[[],none,rfl,LD] ?_ ?_)))
  .rintro j x q _ ⟨tel,y,rfl,d⟩
   rw[List.getElem?_map]at q;rintro⟨r,f,rfl⟩:oM q;have a:(own++rs)[j]? =some r:=by rw[List.getElem?_append_left (List.getElem?_eq_some_iff.mp f).1];exact f
   rintro⟨o,g⟩:t j r a;rw[List.take_append_of_le_length (Nat.le_of_lt (List.getElem?_eq_some_iff.mp f).1),<-F7]at o g;rintro⟨b,d',e⟩:HG (k:=k+9) (rs:=rs) (num:=[]) (v r (mem_of_getElem? a)) d o (by rw[lM]at g;lia);refine#[_,rfl,cP rfl rfl (ar rfl rfl) rfl e rfl #[b,_,rfl,?_]];rw[take_add_one,f,Option.toList_some,flatMap_append,flatMap_singleton];exact d'
  .rintro _ ⟨tel,y,rfl,d⟩
   rw[lM,take_length]at d;refine EK (λj U=>∃tel num y z w,U=[some (lo true rs tel num),sL true (rs.map Row.p),y,z,w]/\Do ((own++rs.take j).flatMap NB) tel/\Do (En (rs.take j)) num) (d1 rfl rfl) rfl #[tel,[],y,none,none,rfl,by simpa using d,LD] ?_ ?_
   .rintro j x q _ ⟨tel,num,y,z,w,rfl,d,dn⟩
    rintro⟨x,u,rfl⟩:G4 q;rw[show(0,rs.map Row.p).2=rs.map Row.p from rfl,List.getElem?_map]at u;rintro⟨r,f,rfl⟩:oM u;have a:(own++rs)[j+2]? =some r:=f;rintro⟨o,g⟩:t (j+2) r a;have n3:=o;rw[show(own++rs).take (j+2)=own++rs.take j from rfl]at o g n3;rw[<-F7]at o g;rintro⟨b,d',e⟩:HG (k:=k+9) (rs:=rs) (num:=num) (v r (mem_of_getElem? a)) d o (by rw[lM]at g;lia);rw[flatMap_append,append_assoc,nodup_append]at n3;have n3:=n3.2.1;rw[<-DH]at n3;have C:(rs.take j).length=j:=by rw[length_take];have:=(List.getElem?_eq_some_iff.mp f).1;lia
    refine#[_,rfl,cP rfl rfl (ar rfl rfl) rfl e rfl (EK (λi U=>∃num w,U=[some (lo true rs b num),sL true (rs.map Row.p),sP r.p,sI j,w]/\Do (En (rs.take j)++((told r).take i).map (ent (.int (j:Nat)))) num) (BL rfl (Ih (v r (mem_of_getElem? a)))) rfl #[num,w,rfl,by simpa using dn] ?_ ?_)]
    .rintro i x q _ ⟨num,w,rfl,dn⟩
     rw[List.getElem?_map]at q;rintro⟨y,E,rfl⟩:oM q;have l1:=dn.l;have l2:=congrArg List.length (DH (rs.take j));have D:=IV (xs:=rs.take j) λr h=>Ee (Ed (B r (mem_of_mem_take h)))
     have F:=Ee (v r (mem_of_getElem? a));rw[lM]at l2;simp only[En,lA,lM,length_take]at l1 l2 D;exact#[_,rfl,cO (kvs:=num) rfl rfl rfl (dn.By y) (by lia) #[_,_,rfl,J1 dn E n3]]
    .rintro _ ⟨num,w,rfl,dn⟩
     rw[lM,take_length]at dn;refine#[b,num,_,_,_,rfl,?_,?_]
     .rw[take_add_one,f,Option.toList_some,<-append_assoc,flatMap_append (xs:=own++rs.take j),flatMap_singleton];exact d'
     .rw[take_add_one,f,Option.toList_some];unfold En at dn ⊢;rw[List.zipIdx_append,flatMap_append,C,Nat.zero_add];simpa using dn
   .rintro _ ⟨tel,num,y,z,w,rfl,d,dn⟩
    have el:(DW (rs.map Row.p)).length=rs.length:=by simp[DW]
    rw[el,take_length]at d dn;refine Y8 (s:=.expr _) (U':=[some (lo true rs tel num),sL true (rs.map Row.p),y,z,w]) ?_ #[_,rfl,rfl,tel,num,rfl,d,dn];show((k+11)|||(.call 49 [{0}])&&&_).fl (λ_=>_)=_;rw[BL rfl (look tel num d dn)]
    rfl)
 exact#[tel,num,h1,h2,e]
end
theorem GB:∀{L:List (List Str×P)} {y:List Str} {v:P},(L.map (·.1)).Nodup->(y,v)∈L->L.lookup y=some v
 | (z,w)::L,y,v,nd,h=>by
   rw[map_cons,nodup_cons]at nd;rcases mem_cons.mp h with h|h
   .cases h;simp
   .rw[lookup_cons,show(y == z)=false from beq_eq_false_iff_ne.mpr λe=>nd.1 (e▸mem_map.mpr #[_,h,rfl])];exact GB nd.2 h
theorem GI{kvs:List (P×P)}{y:List Str}(d:Do L kvs):Ey (.Bl false kvs) (.p (kP y))=some (.p ((L.lookup y).getD .AG)):=by
 show(if Bk kvs (kP y)then some (C.p ((CT kvs (kP y)).getD .AG))else none)=_;rw[iP (d.By y),d.g]
structure Lr(rs:List Row)(tel num:List (P×P)):Prop where
 dt:Do (MX rs) tel
 dn:Do (En rs) num
 nd:((own++rs).flatMap told).Nodup
 ok:∀r∈rs,r.ok
 hl:rs.length<=40
variable{cf:CF}
theorem Qo{c:C}{tg:Tg}{ks:Sq}{cond:List T}{fr:List (Option Nat)}(g:α->P)(l:List α)(p:α->Bool)(f:α->P)(e:(den cf t).v U= .ok c)(i:ks c=some (l.map g))(hl:l.length<=100000)
 (h:∀a∈l,∃β,Cs tg (g a) (AE fr U)=some β/\FU cf cond β= .ok (p a)/\(p a=true->∃c,(den cf u).v β= .ok c/\c.CK=some (f a))):(den cf (.comp tg ks t cond u fr)).v U= .ok (.lst true ((l.filter p).map f)):=by
 have key:∀l:List α,(∀a∈l,∃β,Cs tg (g a) (AE fr U)=some β/\FU cf cond β= .ok (p a)/\(p a=true->∃c,(den cf u).v β= .ok c/\c.CK=some (f a)))->C7 tg (FU cf cond) (den cf u).v (AE fr U) (l.map g)= .ok ((l.filter p).map f):=by
  intro l
  induction l with
  |nil=>intro _;rfl
  |cons a l b=>
    intro h;rintro⟨β,e1,e2,n⟩:h a (.head _);have b:=b λz hz=>h z (.tail _ hz)
    show(Res.of (Cs tg (g a) (AE fr U))).bind _=_;rw[e1];show(FU cf cond β).bind _=_;rw[e2];cases d:p a with
    |false=>rw[List.filter_cons_of_neg (by simp[d])];exact b
    |true=>
      rintro⟨c,m,k⟩:n d;rw[List.filter_cons_of_pos d];show((den cf u).v β).bind _=_;rw[m];show(Res.of c.CK).bind _=_;rw[k];show(C7 tg (FU cf cond) (den cf u).v (AE fr U) (l.map g)).bind _=_;rw[b];rfl
 show((den cf t).v U).bind (λc=>(Res.of (ks c)).bind λxs=>if xs.length<=big then(C7 tg (FU cf cond) (den cf u).v (AE fr U) xs).bind λys=>.ok (C.lst true ys)else .stuck)=_;rw[e];show(Res.of (ks c)).bind _=_;rw[i];show(if(l.map g).length<=big then _ else _)=_;rw[iP (show _<=big from by rw[lM];exact hl),key l h];rfl
section
variable {k:Nat}{rs:List Row}{tel num:List (P×P)}(X:Lr rs tel num)
include X
theorem ER{x:Row}{y:List Str}(b:x∈own++rs)(a:y∈told x):(MX rs).lookup y=some x.p:=
 GB (by unfold MX;rw[F7];exact X.nd) (mem_flatMap.mpr #[x,b,mem_map.mpr #[y,a,rfl]])
theorem Zj:(rs.flatMap told).Nodup:=by have:=X.nd;rw[flatMap_append,nodup_append]at this;exact this.2.1
theorem KW{x:Row}{i:Nat}{y:List Str}(b:rs[i]? =some x)(a:y∈told x):(En rs).lookup y=some (.int i):=
 GB (by unfold En;rw[DH];exact Zj X) (mem_flatMap.mpr #[(x,i),mem_of_getElem? (i:=i) (by rw[List.getElem?_zipIdx,b];simp),mem_map.mpr #[y,a,rfl]])
theorem P8{y:List Str}(h:∀x∈rs,y∉told x):(En rs).lookup y=none:=by
 rw[lookup_eq_none_iff];intro q hq;have:q.1∈(En rs).map (·.1):=mem_map_of_mem hq;unfold En at this;rw[DH]at this;rintro⟨x,b,a⟩:mem_flatMap.mp this;exact bne_iff_ne.mpr λ(e:y=q.1)=>h x b (by rw[e];exact a)
theorem IH{m:Nat}{fs:List (Str×List Kd)}(h: .kind n m fs∈own++rs):cN (k + 1) 72 [lo false rs tel num,.p (.str n)]= .ok (.p (.int m)):=by
 have e:=GI (y:=["kind",n]) X.dt;rw[ER X h (by simp[told])]at e;exact ce (gF 70 rfl) (Am (d2 (d1 rfl rfl) (dt (fz rfl (fz rfl rfl))) e) (Ax (ZM (bb #[rfl]) #[#[2]]) rfl))
theorem DM{l:List Str}(h: .cls n l∈rs):cN (k + 1) 75 [lo false rs tel num,.p (.str n)]= .ok (.lst true (l.map P.str)):=by
 have e:=GI (y:=["class",n]) X.dt;rw[ER X (mR h) (by simp[told])]at e;exact ce (gF 71 rfl) (Am (d2 (d1 rfl rfl) (dt (fz rfl (fz rfl rfl))) e) (Ax (ZM (bb #[rfl]) (d1 #[#[2]] rfl)) rfl))
theorem G5{ks:List Kd}{r:Kd}(h: .Ba n c ks r∈rs):cN (k + 1) 77 [lo false rs tel num,.p (.str n)]= .ok (.p (.tup [.str c,.tup (ks.map Kd.p),r.p])):=by
 have e:=GI (y:=["function",n]) X.dt;rw[ER X (mR h) (by simp[told])]at e;exact ce (gF 73 rfl) (Am (d2 (d1 rfl rfl) (dt (fz rfl (fz rfl rfl))) e) (Ag (CV (bb #[rfl]) (bb (d2 #[#[0]] rfl XG))) (Ax (dt (fz #[#[2]] (fz #[#[3]] (fz #[#[4]] rfl)))) rfl)))
theorem Eu{l:List (Option Str)}{i:Nat}(h:rs[i]? =some (.Af c q l)):cN (k + 1) 79 [lo false rs tel num,.p (.str c),.p (.str q)]= .ok (.p (.int i)):=by
 have e:=GI (y:=["house",c,q]) X.dn;rw[KW X h (by simp[told])]at e;exact ce (gF 75 rfl) (Ax (d2 (d1 rfl rfl) (dt (fz rfl (fz rfl (fz rfl rfl)))) e) rfl)
theorem Q2(h:∀l,.Af c q l∉rs):cN (k + 1) 79 [lo false rs tel num,.p (.str c),.p (.str q)]= .ok (.p .AG):=by
 have e:=GI (y:=["house",c,q]) X.dn
 rw [P8 X λx d a=>by
  cases x with
  |Af c' b l=>
    cases (show[("house":Str),c,q]=([("house":Str),c',b]:List Str)from by simpa[told]using a);exact h l d
  |_=>simp[told]at a]at e
 exact ce (gF 75 rfl) (Ax (d2 (d1 rfl rfl) (dt (fz rfl (fz rfl (fz rfl rfl)))) e) rfl)
theorem GG{l:List (Option Str)}{i:Nat}(h:rs[i]? =some (.Af c q l)):cN (k + 1) 80 [lo false rs tel num,.p (.int i)]= .ok (.p (Row.Af c q l).p):=by
 have hi:=(List.getElem?_eq_some_iff.mp h).1;have e:Ae (.p (.box 0 (rs.map Row.p))) (.p (.int i))=some (.p (Row.Af c q l).p):=AA (ps:=rs.map Row.p) rfl (by rw[List.getElem?_map,h];rfl);exact ce (gF 76 rfl) (Ag (CV (bb #[FJ (by lia)]) (bb (d2 rfl (d1 (d1 rfl rfl) (show AD (.p (.box 0 (rs.map Row.p)))=some (.p (.int (rs.map Row.p).length))from rfl)) (congrArg (λb=>some (bC b)) (dF (by simp;lia)))))) (Am (d2 (d1 rfl rfl) rfl e) (Ax (bY (bb (d2 #[#[0]] rfl eqT)) rfl) rfl)))
theorem JQ{l:List (Option Str)}{i:Nat}(h:rs[i]? =some (.Af c q l)):cN (k + 2) 81 [lo false rs tel num,.p (.int i)]= .ok (.p (.tup (l.map oP))):=
 ce (gF 77 rfl) (Am (Hi rfl rfl (GG X h)) (Ax (ZM (bb #[rfl]) #[#[3]]) rfl))
theorem Iv:cN (k+1) 71 [lo false rs tel num]= .ok (.lst true (rs.map Row.p)):=ce (gF 69 rfl) (Ax (d1 (d1 rfl rfl) rfl) rfl)
theorem X1{x:Row}{y:List Str}(b:x∈own++rs)(a:y∈told x):JP (.p (kP y)) (.Bl false tel)=some (bC false):=by
 show((IP (.p (kP y)) (.Bl false tel)).map λk=>bC (!k))=_;rw[show IP (.p (kP y)) (.Bl false tel)=(if Bk tel (kP y)then some (CT tel (kP y)).isSome else none)from rfl,iP (X.dt.By y),X.dt.g,ER X b a];rfl
def Mv:Row->Str
 |.Ba n _ _ _=>n
 |_=>⟨[].toArray⟩
def PZ(c:Str):Row->Bool
 |.Ba _ c' _ _=>decide (c'=c)
 |_=>false
omit X in
theorem dw {x y:Str}:Bd (.p (.str x)) (.p (.str y))=some (bC (decide (x=y))):=by unfold Bd;rw[eqs];rfl
theorem K8{l:List Str}(h: .cls c l∈rs):∃ns:List Str,cN (k + 1) 78 [lo false rs tel num,.p (.str c)]= .ok (.lst true (ns.map P.str))/\ns.length<=40/\∀n,n∈ns↔∃ks r,.Ba n c ks r∈rs:=by
 refine#[(rs.filter (PZ c)).map Mv,?_,by rw[lM];exact Nat.le_trans (length_filter_le _ _) X.hl,λn=>?_]
 .refine ce (gF 74 rfl) (Ag (bb (d2 (dt (fz rfl (fz rfl rfl))) (d1 rfl rfl) (X1 X (y:=["class",c]) (mR h) (by simp[told])))) (Ax (Qo Row.p rs (PZ c) (λr=>.str (Mv r)) (d1 rfl rfl) rfl (by have:=X.hl;lia) λr a=>#[_,rfl,?_,λb=>?_]) (by rw[map_map];rfl)))
  .cases r with
   |Ba n c' ks r=>exact QF (bb (d2 #[#[0]] rfl eqT)) (bb (d2 #[#[2]] rfl dw))
   |_=>exact UU (bb (d2 #[#[0]] rfl Bc))
  .cases r with
   |Ba n c' ks r=>exact#[_,#[#[1]],rfl]
   |_=>cases b
 .rw[mem_map];constructor
  .rintro⟨r,a,rfl⟩
   rintro⟨h1,h2⟩:mem_filter.mp a;cases r with
   |Ba n c' ks r=>cases of_decide_eq_true h2;exact#[ks,r,h1]
   |_=>cases h2
  .rintro⟨ks,r,a⟩
   exact#[_,mem_filter.mpr #[a,dZ rfl],rfl]
omit X in
theorem Q1 {x:Str} {l:List Str} {o:Bool}:IP (.p (.str x)) (.lst o (l.map P.str))=some (l.contains x):=by
 show(((Cv P.BN (l.map P.str)).map λxs=>xs.contains x) <|> _)=_;rw[Oj];rfl
theorem TH{l:List (Option Str)}{i:Nat}{el:List Str}{ks:List Kd}{r:Kd}(h:rs[i]? =some (.Af c q l))(t: .cls c el∈rs)(hd: .Ba d c ks r∈rs)(u:(∃n e,.once d n e∈rs)\/∃n e,.CS c q d n e∈rs):∃j:Nat,cN (k + 2) 82 [lo false rs tel num,.p (.int i),.p (.str d)]= .ok (.p (.int j)):=by
 rintro⟨ns,e1,_,e2⟩:K8 (k:=k) X t
 have a:JP (.p (.str d)) (.lst true (ns.map P.str))=some (bC false):=by
  show((IP (.p (.str d)) (.lst true (ns.map P.str))).map λk=>bC (!k))=_;rw[Q1,show ns.contains d=true from by simpa using(e2 d).mpr #[ks,r,hd]];rfl
 have g1:=GI (y:=["does",c,q,d]) X.dn
 have go:∀{j:Nat} {v:P},(En rs).lookup ([("does":Str),c,q,d]:List Str)=some (.int j)->∃j:Nat,cN (k + 2) 82 [lo false rs tel num,.p (.int i),.p (.str d)]= .ok (.p (.int j)):=λ{j v} e=>by
  rw[e]at g1;exact#[j,ce (gF 78 rfl) (Am (Hi rfl rfl (GG X h)) (Ag (CV (bb #[rfl]) (bb (d2 rfl (Hi rfl #[#[1]] e1) a))) (Am (d2 (d1 rfl rfl) (dt (fz rfl (fz #[#[1]] (fz #[#[2]] (fz rfl rfl))))) g1) (Ax (ZM (bb #[rfl]) rfl) rfl))))]
 by_cases b:∃x∈rs,([("does":Str),c,q,d]:List Str)∈told x
 .obtain⟨x,g,f⟩:=b;rintro⟨j,o⟩:mem_iff_getElem?.mp g;exact go (v:=.AG) (KW X o f)
 .have s:∀x∈rs,([("does":Str),c,q,d]:List Str)∉told x:=λx g f=>b #[x,g,f]
  rw[P8 X s]at g1;rcases u with⟨n,e,m⟩|⟨n,e,m⟩
  .obtain⟨j,o⟩:=mem_iff_getElem?.mp m;have g2:=GI (y:=["once",d]) X.dn;rw[KW X o (by simp[told])]at g2;exact#[j,ce (gF 78 rfl) (Am (Hi rfl rfl (GG X h)) (Ag (CV (bb #[rfl]) (bb (d2 rfl (Hi rfl #[#[1]] e1) a))) (Am (d2 (d1 rfl rfl) (dt (fz rfl (fz #[#[1]] (fz #[#[2]] (fz rfl rfl))))) g1) (Ax (bY (bb #[rfl]) (d2 (d1 rfl rfl) (dt (fz rfl (fz rfl rfl))) g2)) rfl))))]
  .exact absurd (by simp[told]) (s _ m)
end
def Rk(rk:Str->Nat)(rs:List Row):Prop:=∀n l,.cls n l∈rs->∀e∈l,rk e < rk n/\∃l',.cls e l'∈rs
def FV:Row->Str
 |.cls n _=>n
 |_=>⟨[].toArray⟩
def Fx:Row->Bool
 |.cls _ _=>true
 |_=>false
def Uw(F:List Str)(r:Row):Nat:=if Fx r=true/\FV r∉F then 1 else 0
def Es:List Row->List Str->Nat
 |[],_=>0
 |r::rs,F=>Uw F r+Es rs F
theorem IJ(F:List Str):∀rs:List Row,Es rs F<=rs.length
 |[]=>Nat.le_refl _
 | r::rs=>by
   have h1:=IJ F rs;have h2:Uw F r<=1:=by unfold Uw;split<;>decide
   simp only[Es,lC];lia
theorem Pw(F:List Str)(e:Str)(r:Row):Uw (F++[e]) r<=Uw F r:=by
 unfold Uw
 by_cases h:Fx r=true/\FV r∉F++[e]
 .rw[iP h,iP #[h.1,λz=>h.2 (by simp[z])]];exact Nat.le_refl _
 .rw[iN h];exact Nat.zero_le _
theorem HE(F:List Str)(e:Str):∀rs:List Row,Es rs (F++[e])<=Es rs F
 |[]=>Nat.le_refl _
 |r::rs=>Nat.add_le_add (Pw F e r) (HE F e rs)
theorem Ml{F:List Str}{e:Str}{l:List Str}(he:e∉F):∀{rs:List Row},.cls e l∈rs->Es rs (F++[e]) + 1<=Es rs F
 | r ::rs,h=>by
   rcases mem_cons.mp h with rfl|h
   .have:=HE F e rs;have h1:Uw (F++[e]) (.cls e l)=0:=iN (by simp[FV]);have h2:Uw F (.cls e l)=1:=iP #[rfl,he];simp only[Es,h1,h2];lia
   .have:=Ml he h;have:=Pw F e r;simp only[Es];lia
def Ks(F:List Str)(kvs:List (P×P)):Prop:=kvs.map (·.1)=F.map P.str
theorem Ks.By{F:List Str}{kvs:List (P×P)}(h:Ks F kvs)(e:Str):Bk kvs (.str e)=true:=by
 show(true && kvs.all λq=>q.1.tag == 3)=true;rw[Bool.true_and,all_eq_true];intro q hq;have:q.1∈kvs.map (·.1):=mem_map_of_mem hq;rw[h]at this;rintro⟨s,_,e⟩:mem_map.mp this;rw[<-e];rfl
theorem Ks.has{F:List Str}{kvs:List (P×P)}(h:Ks F kvs)(e:Str):(CT kvs (.str e)).isSome=F.contains e:=by
 unfold CT;rw[Option.isSome_map];have:(kvs.find? λq=>decide (q.1= .str e)).isSome=(kvs.map (·.1)).any λq=>decide (q= .str e):=by rw[List.any_map,Bool.eq_iff_iff,List.find?_isSome];simp
 rw[this,h,List.any_map,Bool.eq_iff_iff];simp
theorem Ks.IP{F:List Str}{kvs:List (P×P)}(h:Ks F kvs)(e:Str){o:Bool}:IP (.p (.str e)) (.Bl o kvs)=some (F.contains e):=by
 show(if Bk kvs (.str e)then some (CT kvs (.str e)).isSome else none)=_;rw[iP (h.By e),h.has]
section
variable {k:Nat}{rs:List Row}{tel num:List (P×P)}(X:Lr rs tel num){rk:Str->Nat}(K:Rk rk rs)
include X K
theorem GK{l:List Str}(q: .cls c l∈rs):∃fs:List Str,cN (k + 2) 76 [lo false rs tel num,.p (.str c)]= .ok (.lst true (fs.map P.str))/\(∀e∈fs,rk e < rk c)/\∀e∈l,e∈fs:=by
 have t:∀{e:Str} {l:List Str},.cls e l∈rs->l.length<=3:=λh=>(X.ok _ h).2.1
 obtain ⟨_, e,fs,rfl,h1,h2⟩:=cw (k:=k + 1) (args:=[lo false rs tel num,.p (.str c)]) (R:=λx=>∃fs:List Str,x= .lst true (fs.map P.str)/\(∀e∈fs,rk e < rk c)/\∀e∈l,e∈fs) (gF 72 rfl) (by
  refine Am (Hi rfl rfl (DM X q)) (Ag (bb #[rfl]) (Am rfl (ae (λm U=>∃(W F:List Str) (kvs:List (P×P)) (y:Option C),U=[some (lo false rs tel num),sS c,sL true (W.map P.str),some (.Bl true kvs),y]/\Ks F kvs/\(∀e,e∈W\/e∈F->rk e < rk c/\∃i,.cls e i∈rs)/\(∀e∈l,e∈W\/e∈F)/\m=4*Es rs F+W.length/\m<=200/\F.length+Es rs F<=40) (n:=4*Es rs []+l.length) #[l,[],[],none,rfl,rfl,λe h=>K c l q e (by simpa using h),λe h=>.inl h,rfl,?_,?_] ?_)))
  .have:=IJ [] rs;have:=X.hl;have:=t q
   lia
  .have:=IJ [] rs;have:=X.hl;simp;lia
  rintro m _ ⟨W,F,kvs,y,rfl,o,h1,h2,rfl,hm,I⟩
  by_cases v:W=[]
  .subst v;refine .inl #[bv rfl,Ax (Qo Row.p rs (λr=>Fx r && F.contains (FV r)) (λr=>.str (FV r)) (d1 rfl rfl) rfl (by have:=X.hl;lia) λr u=>#[_,rfl,?_,λE=>?_]) #[(rs.filter λr=>Fx r && F.contains (FV r)).map FV,by rw[map_map];rfl,λe he=>?_,λe he=>?_]]
   .cases r with
    |cls n l=>
      refine QF (bb (d2 #[#[0]] rfl eqT)) (bb (d2 #[#[1]] rfl ?_));show((Nv.IP (.p (.str n)) (.Bl false kvs)).map bC)=_;rw[o.IP];rfl
    |_=>exact UU (bb (d2 #[#[0]] rfl Bc))
   .cases r with
    |cls n l=>exact#[_,#[#[1]],rfl]
    |_=>cases E
   .obtain⟨r,u,rfl⟩:=mem_map.mp he;rintro⟨_,A⟩:mem_filter.mp u;rw[bA]at A;exact(h1 _ (.inr (by simpa using A.2))).1
   .have J:=h2 e he;have w:e∈F:=by simpa using J
    rintro⟨_,i,d⟩:h1 e (.inr w);exact mem_map.mpr #[_,mem_filter.mpr #[d,by simp[Fx,FV,w]],rfl]
  .obtain ⟨W,e,rfl⟩:=snoc v;rintro⟨_,i,d⟩:h1 e (.inl (by simp));have g:JP (.p (.str e)) (.Bl false kvs)=some (bC (!F.contains e)):=by show((Nv.IP (.p (.str e)) (.Bl false kvs)).map λk=>bC (!k))=_;rw[o.IP];rfl
   have M:kvs.length=F.length:=by have:=congrArg List.length o;simpa using this
   rw[lA,lS]at hm;refine .inr #[bv (c:=.lst false ((W++[e]).map P.str)) rfl (by simp[FH]),af #[] (ps:=W.map P.str) (p:=.str e) ?_ (by rw[<-map_singleton (f:=P.str),<-map_append];rfl)]
   by_cases he:e∈F
   .rw[show F.contains e=true by simpa using he]at g;refine Ag (bb #[g]) #[4*Es rs F+W.length,by rw[lA];simp,W,F,kvs,_,rfl,o,λa b=>h1 a (by simpa using b.imp .inl id),λa b=>?_,rfl,by lia,I];rcases h2 a b with h|h
    .rcases mZ h with h|h
     .exact .inl h
     .cases mE h;exact .inr he
    .exact .inr h
   .rw [show F.contains e=false by simpa using he]at g;have G:=Ml he d;have H:=t d;refine wit (bb #[g]) (aF (kvs:=kvs) rfl rfl (o.By e) (by lia) (XC (ps:=W.map P.str) (Hi rfl rfl (DM X d)) rfl (by simp;lia) #[4*Es rs (F++[e])+(W++i).length,by simp;lia,W++i,F++[e],dput kvs (.str e) (.bl true),sS e,by rw[map_append (l₁:=W) (l₂:=i)];rfl,?_,λa b=>?_,λa b=>?_,rfl,by simp;lia,by simp;lia]))
    .show(dput kvs (.str e) _).map (·.1)=_;rw[Qk,o,iN λz=>he (by rintro⟨s,hs,h⟩:mem_map.mp z;injection h with h;exact h▸hs),map_append];rfl
    .rcases b with b|b
     .rcases mZ b with b|b
      .exact h1 a (.inl (by simp[b]))
      .obtain⟨D,B⟩:=K e i d a b;exact#[Nat.lt_trans D (h1 e (.inl (by simp))).1,B]
     .rcases mZ b with b|b
      .exact h1 a (.inr b)
      .cases mE b;exact h1 e (.inl (by simp))
    .rcases h2 a b with h|h
     .rcases mZ h with h|h
      .exact .inl (by simp[h])
      .exact .inr (by simp[mE h])
     .exact .inr (by simp[h]))
 exact#[fs,e,h1,h2]
end
def fh:List (List Str):=[["function","plus"],["function","minus"],["function","under"]]
def Ds:List (List Str):=own.flatMap told++fh
theorem UP:∀L:List (List Str×P),Do L (L.map λq=>(kP q.1,q.2))
 |[]=>LD
 | (z, v)::L=>by
   have d:=UP L;refine#[λy=>?_,λq hq=>?_,by simp]
   .have:=d.g y;unfold CT at this ⊢;rw[map_cons,List.find?_cons,lookup_cons]
    by_cases h:y=z
    .subst h;simp
    .rw[show decide (kP z=kP y)=false from dF λe=>h (PN e).symm,show(y == z)=false from beq_eq_false_iff_ne.mpr h];exact this
   .rcases mem_cons.mp hq with rfl|hq
    .rfl
    .exact d.t q hq
theorem MW{k:Nat}:cN (k + 2) 34 []= .ok (.Bl true ((Ds.map (ent (.bl true))).map λq=>(kP q.1,q.2))):=by
 have e:(k+1)<<<cM>>>[none,none,none,none]= .ret (.Bl true ((Ds.map (ent (.bl true))).map λq=>(kP q.1,q.2))):=by kernel_rfl
 refine ce (gF 32 rfl) ?_;show WP ((k+1)<<<cM>>>[none,none,none,none]) _ _;rw[e];rfl
theorem Cn{N:Env->Prop}{R:C->Prop}(h:N U):WP (execs cf As [] U) N R:=h
def Bu:Row->List Kd
 |.Ba _ _ ks r=>ks++[r]
 |.kind _ _ fs=>fs.flatMap (·.2)
 |_=>[]
def Kd.JZ:Kd->Bool
 |.mk _ _=>true
 |_=>false
def E4(r:Row):List Kd:=(Bu r).flatMap λk=>k.w.filter Kd.JZ
section
variable{k:Nat}{rs:List Row}{tel num:List (P×P)}
theorem Kz{o:Bool}(ok:∀r∈rs,r.ok)(hl:rs.length<=40)(nd:(Ds++rs.flatMap told).Nodup):cN (k + 3) 35 [.lst o (rs.map Row.p)]= .ok (.p .AG):=by
 refine ce (gF 33 rfl) (Am (dc rfl MW) (R9 (λj U=>∃(L:List (List Str×P)) (kvs:List (P×P)) (y z w:Option C),U=[sL false (rs.map Row.p),some (.Bl true kvs),y,z,w]/\Do L kvs/\L.map (·.1)=Ds++(rs.take j).flatMap told) rfl rfl #[_,_,none,none,none,rfl,UP _,by rw[DL];simp] ?_ ?_))
 .rintro j x f _ ⟨L,kvs,y,z,w,rfl,d,m⟩
  rintro⟨x,b,rfl⟩:G4 f;rw[List.getElem?_map]at b;rintro⟨r,t,rfl⟩:oM b;have v:=Ed (ok r (mem_of_getElem? t))
  have n:((L.map (·.1))++told r).Nodup:=by
   rw[m]
   have e:rs=rs.take j++r::rs.drop (j + 1):=by
    have c:=List.getElem?_eq_some_iff.mp t
    conv=>lhs;rw[<-take_append_drop j rs,drop_eq_getElem_cons c.1,c.2]
   have u:=nd;rw[e,flatMap_append,flatMap_cons,<-append_assoc,<-append_assoc,nodup_append]at u;exact u.1
  have A:L.length<=300:=by
   have h1:=congrArg List.length m;have h2:=IV (xs:=rs.take j) λr h=>Ee (Ed (ok r (mem_of_mem_take h)))
   have B:Ds.length=7:=rfl;rw[lM,lA]at h1;simp only[length_take]at h2
   lia
  refine#[_,rfl,EK (λi U=>∃kvs w,U=[sL false (rs.map Row.p),some (.Bl true kvs),sI j,sP r.p,w]/\Do (L++((told r).take i).map (ent (.bl true))) kvs) (BL rfl (Ih v)) rfl #[kvs,w,rfl,by simpa using d] ?_ ?_]
  .rintro i x f _ ⟨kvs,w,rfl,d⟩
   rw[List.getElem?_map]at f;rintro⟨y,s,rfl⟩:oM f;have l1:=d.l;have l2:=Ee v
   have fresh:Nu (.p (kP y)) (.Bl false kvs)=some (bC false):=by
    show((IP (.p (kP y)) (.Bl false kvs)).map bC)=_;rw[show IP (.p (kP y)) (.Bl false kvs)=(if Bk kvs (kP y)then some (CT kvs (kP y)).isSome else none)from rfl,iP (d.By y),d.g,lookup_eq_none_iff.mpr]
    .rfl
    .intro q hq;refine bne_iff_ne.mpr λ(e:y=q.1)=>?_
     have:y∈(L++((told r).take i).map (ent (.bl true))).map (·.1):=e▸mem_map_of_mem hq;rw[map_append,DL]at this;rcases mZ this with h|h
     .exact(nodup_append.mp n).2.2 y h y (mem_of_getElem? s) rfl
     .have a:=(nodup_append.mp n).2.1;rw[<-take_append_drop i (told r),nodup_append]at a;exact a.2.2 y h y (mem_of_getElem? (i:=0) (by rw[List.getElem?_drop];simpa using s)) rfl
   refine#[_,rfl,Ag (bb #[fresh]) (aF (kvs:=kvs) rfl rfl (d.By y) (by simp at l1;lia) #[_,_,rfl,J1 d s n])]
  .rintro _ ⟨kvs,w,rfl,d⟩
   rw[lM,take_length]at d;exact#[_,kvs,_,_,_,rfl,d,by rw[map_append,DL,m,take_add_one,t,Option.toList_some,flatMap_append,flatMap_singleton,append_assoc]]
 .rintro _ ⟨L,kvs,y,z,w,rfl,d,m⟩
  exact Ax rfl rfl
theorem Hu{r:Row}(h:r.ok):cN (k + 1) 36 [.p r.p]= .ok (.lst true ((Bu r).map Kd.p))/\(Bu r).length<=12/\∀x∈Bu r,x.ok:=by
 cases r with
 |Ba n c ks r=>
   have hl:=h.2.2.1;refine#[ce (gF 34 rfl) (wit (bb (d2 #[#[0]] rfl eqT)) (Ax (d2 (d1 #[#[3]] rfl) (dl (fz #[#[4]] rfl)) (add_l (by simp;lia))) ?_)),?_,?_]
   .rw[show Bu (.Ba n c ks r)=ks++[r]from rfl,map_append];rfl
   .simp[Bu];lia
   .intro x a;rcases mZ a with a|a
    .exact(h.2.2.2.1 x a).1
    .cases mE a;exact h.2.2.2.2.1
 |kind n m fs=>
   rintro⟨_,_,_,e,b⟩:h
   have hl:∀j,((fs.take j).flatMap (·.2)).length<=3 * (fs.take j).length:=λj=>by
    have:∀xs:List (Str×List Kd),(∀f∈xs,f.2.length<=3)->(xs.flatMap (·.2)).length<=3 * xs.length:=λxs=>by
     induction xs with
     |nil=>intro _;exact Nat.le_refl _
     |cons f xs d=>intro h;have:=h f (by simp);have:=d λf hf=>h f (mem_cons_of_mem _ hf);rw[flatMap_cons,lA,lC];lia
    exact this _ λf hf=>(b f (mem_of_mem_take hf)).2.1
   refine#[ce (gF 34 rfl) (Ag (bb (d2 #[#[0]] rfl Bc)) (Am (dl rfl) (wit (bb (d2 #[#[0]] rfl eqT)) (EK (λj U=>∃y,U=[sP (Row.kind n m fs).p,sL true (((fs.take j).flatMap (·.2)).map Kd.p),y]) #[#[3]] rfl #[none,rfl] ?_ ?_)))),?_,?_]
   .rintro j x a _ ⟨y,rfl⟩
    rw[List.getElem?_map]at a;rintro⟨f,hf,rfl⟩:oM a;have:=hl j;have:=(b f (mem_of_getElem? hf)).2.1;have:(fs.take j).length<=4:=by rw[length_take];lia
    refine#[_,rfl,XC (ps:=((fs.take j).flatMap (·.2)).map Kd.p) #[AA (i:=1) (ps:=[.str f.1,.tup (f.2.map Kd.p)]) rfl rfl] rfl (by rw[lA,lM,lM];lia) #[some (.p (fP f)),?_]];rw[take_add_one,hf,Option.toList_some,flatMap_append,flatMap_singleton,map_append];rfl
   .rintro _ ⟨y,rfl⟩
    rw[lM,take_length];exact Cn (MQ rfl)
   .have:=hl 4;rw[take_of_length_le e]at this;show(fs.flatMap (·.2)).length<=12
    lia
   .intro x a;rintro⟨f,hf,a⟩:mem_flatMap.mp a;exact((b f hf).2.2 x a).1
 |_=>exact#[ce (gF 34 rfl) (Ag (bb (d2 #[#[0]] rfl Bc)) (Am (dl rfl) (Ag (bb (d2 #[#[0]] rfl Bc)) (MQ rfl)))),Nat.le_of_ble_eq_true rfl,λx a=>by cases a]
theorem GA{r:Row}(h:r.ok):cN (k + 2) 37 [.p r.p]= .ok (.lst true ((E4 r).map Kd.p))/\(E4 r).length<=48:=by
 rintro⟨e,h1,h2⟩:Hu (k:=k) h
 have hl:∀j,(((Bu r).take j).flatMap λk=>k.w.filter Kd.JZ).length<=4 * ((Bu r).take j).length:=λj=>by
  have:∀xs:List Kd,(∀f∈xs,f.ok)->(xs.flatMap λk=>k.w.filter Kd.JZ).length<=4 * xs.length:=λxs=>by
   induction xs with
   |nil=>intro _;exact Nat.le_refl _
   |cons f xs g=>
     intro h;have a1:(f.w.filter Kd.JZ).length<=f.w.length:=length_filter_le _ _;have a2:f.w.length<=4:=M3 (h f (by simp));have:=g λf hf=>h f (mem_cons_of_mem _ hf)
     rw[flatMap_cons,lA,lC];lia
  exact this _ λf hf=>h2 f (mem_of_mem_take hf)
 refine#[ce (gF 35 rfl) (Am (dl rfl) (EK (λj U=>∃y,U=[sP r.p,sL true ((((Bu r).take j).flatMap λk=>k.w.filter Kd.JZ).map Kd.p),y]) (BL rfl e) rfl #[none,rfl] ?_ ?_)),?_]
 .rintro j x b _ ⟨y,rfl⟩
  rw[List.getElem?_map]at b;rintro⟨d,hd,rfl⟩:oM b;have c:=h2 d (mem_of_getElem? hd);have a1:(d.w.filter Kd.JZ).length<=d.w.length:=length_filter_le _ _;have a2:d.w.length<=4:=M3 c;have:=hl j;have:((Bu r).take j).length<=12:=by rw[length_take];lia
  refine#[_,rfl,XC (ps:=(((Bu r).take j).flatMap λk=>k.w.filter Kd.JZ).map Kd.p) (Qo Kd.p d.w Kd.JZ Kd.p (BL rfl (within c)) rfl (by lia) λa l=>#[_,rfl,?_,λ_=>#[_,rfl,rfl]]) rfl (by rw[lA,lM,lM];lia) #[some (.p d.p),?_]]
  .cases a with
   |op i=>exact bb (d1 rfl rfl)
   |mk n as=>exact bb (d1 rfl rfl)
  .rw[take_add_one,hd,Option.toList_some,flatMap_append,flatMap_singleton,map_append];rfl
 .rintro _ ⟨y,rfl⟩
  rw[lM,take_length];exact MQ rfl
 .have:=hl (Bu r).length;rw[take_length]at this;unfold E4
  lia
end
def aD(rs:List Row)(k:Kd):Prop:=∀n as,Kd.mk n as∈k.w->∃fs,.kind n as.length fs∈own++rs
def cG(rs:List Row)(a b:Option Str):Prop:=a=none\/a=b\/∃x y l,a=some x/\b=some y/\.cls y l∈rs/\x∈l
noncomputable def Gd(rs:List Row):Row->Prop
 |.kind _ _ fs=>∀f∈fs,∀k∈f.2,aD rs k
 |.cls _ _=>True
 |.Ba _ c ks r=>(∃l,.cls c l∈rs)/\(∀k∈ks++[r],aD rs k)/\∃k∈ks++[r],∃i,Kd.op i∈k.w
 |.Af c q l=>(∃el,.cls c el∈rs/\∀e∈el,∃l',.Af e q l'∈rs/\∀p∈l'.zip l,cG rs p.1 p.2)/\(∃fs,.kind q l.length fs∈own++rs)/\(∀n,some n∈l->∃el,.cls n el∈rs)/\∀n ks r,.Ba n c ks r∈rs->(∃m e,.once n m e∈rs)\/∃m e,.CS c q n m e∈rs
 |.once d n _=>∃c ks r,.Ba d c ks r∈rs/\(Jl n).length=ks.length
 |.CS c q d n _=>(∃l,.Af c q l∈rs)/\∃ks r,.Ba d c ks r∈rs/\(Jl n).length=ks.length
 |.ask _=>True
theorem Pe{r:Row}(g:Gd rs r){x:Kd}(h:x∈E4 r):∃n as fs,x= .mk n as/\.kind n as.length fs∈own++rs:=by
 rintro⟨k,a,b⟩:mem_flatMap.mp h;rintro⟨h1,h2⟩:mem_filter.mp b
 have ok:aD rs k:=by
  cases r with
  |Ba n c ks r=>exact g.2.1 k a
  |kind n m fs=>rintro⟨f,hf,a⟩:mem_flatMap.mp a;exact g f hf k a
  |_=>cases a
 cases x with
 |op i=>cases h2
 |mk n as=>rintro⟨fs,hf⟩:ok n as h1;exact#[n,as,fs,rfl,hf]
section
variable{k:Nat}{rs:List Row}{tel num:List (P×P)}{r:Row}
theorem B0(ps:List P){o:Bool}:AD (.lst o ps)=some (.p (.int ps.length)):=rfl
theorem JW(h:r.ok)(g:Gd rs r):∃ns:List Str,cN (k + 3) 38 [.p r.p]= .ok (.lst true (ns.map P.str))/\ns.length<=48/\∀n∈ns,∃m fs,.kind n m fs∈own++rs:=by
 by_cases d:∃c q l,r= .Af c q l
 .obtain⟨c,q,l,rfl⟩:=d;rintro⟨fs,hf⟩:g.2.1;exact#[[q],ce (gF 36 rfl) (wit (bb (d2 #[#[0]] rfl eqT)) (Ax (dl (fz #[#[2]] rfl)) rfl)),Nat.le_of_ble_eq_true rfl,λn b=>by rw[mE b];exact#[_,fs,hf]]
 .obtain⟨e,hl⟩:=GA (k:=k) h;refine#[(E4 r).map λx=>match x with| .mk n _=>n|_=>⟨[].toArray⟩,ce (gF 36 rfl) (Ag ?_ (Ax (Qo Kd.p (E4 r) (λ_=>true) (λx=>match x with| .mk n _=>.str n|_=>.str ⟨[].toArray⟩) (BL rfl e) rfl (by lia) λx a=>#[_,rfl,rfl,λ_=>?_]) ?_)),by rw[lM];exact hl,λn b=>?_]
  .cases r with
   |Af c q l=>exact absurd #[c,q,l,rfl] d
   |_=>exact bb (d2 #[#[0]] rfl Bc)
  .obtain⟨n,as,fs,rfl,_⟩:=Pe g a;exact#[_,#[#[0]],rfl]
  .rw[filter_tt,map_map];exact congrArg (C.lst true) (map_congr_left λx _=>by cases x<;>rfl)
  .obtain⟨x,a,rfl⟩:=mem_map.mp b;rintro⟨n,as,fs,rfl,hf⟩:Pe g a;exact#[_,fs,hf]
def Jz(l:List (Option Str)):List Str:=l.filterMap id
theorem Hj{rk:Str->Nat}(K:Rk rk rs)(d:r∈rs)(h:r.ok)(g:Gd rs r):∃ns:List Str,cN (k + 1) 39 [.p r.p]= .ok (.lst true (ns.map P.str))/\ns.length<=4/\∀n∈ns,∃l,.cls n l∈rs:=by
 cases r with
 |cls n l=>exact#[l,ce (gF 37 rfl) (wit (bb (d2 #[#[0]] rfl eqT)) (Ax (d1 #[#[2]] rfl) rfl)),by have:=h.2.1;lia,λe he=>(K n l d e he).2]
 |Ba n c ks r=>exact#[[c],ce (gF 37 rfl) (Ag (bb (d2 #[#[0]] rfl Bc)) (wit (bb (d2 #[#[0]] rfl eqT)) (Ax (dl (fz #[#[2]] rfl)) rfl))),Nat.le_of_ble_eq_true rfl,λe he=>by rw[mE he];exact g.1]
 |Af c q l=>
   have hl:=h.2.2.1;have i:((l.filter Option.isSome).map oP).length<=3:=by rw[lM];exact Nat.le_trans (length_filter_le _ _) hl
   refine#[c::Jz l,ce (gF 37 rfl) (Ag (bb (d2 #[#[0]] rfl Bc)) (Ag (bb (d2 #[#[0]] rfl Bc)) (wit (bb (d2 #[#[0]] rfl eqT)) (Ax (d2 (dl (fz #[#[1]] rfl)) (Qo oP l Option.isSome oP #[#[3]] rfl (by lia) λo f=>#[_,rfl,?_,λ_=>#[_,rfl,rfl]]) (add_l (by rw[lA,lS];lia))) ?_)))),?_,λn a=>?_]
   .cases o with
    |none=>exact bb #[rfl]
    |some x=>exact bb #[rfl]
   .have:∀l:List (Option Str),(l.filter Option.isSome).map oP=(Jz l).map P.str:=λl=>by
     induction l with
     |nil=>rfl
     | cons o l b=>cases o with
       |none=>exact b
       |some x=>show oP (some x)::(l.filter Option.isSome).map oP= .str x::(Jz l).map P.str;rw[b];rfl
    rw[this];rfl
   .have:=List.length_filterMap_le id l;simp[Jz];lia
   .rcases mem_cons.mp a with rfl|a
    .obtain⟨el,he,_⟩:=g.1;exact#[el,he]
    .exact g.2.2.1 n (by simpa[Jz]using a)
 |_=>exact#[[],ce (gF 37 rfl) (Ag (bb (d2 #[#[0]] rfl Bc)) (Ag (bb (d2 #[#[0]] rfl Bc)) (Ag (bb (d2 #[#[0]] rfl Bc)) (Ax (dl rfl) rfl)))),Nat.zero_le _,λn a=>by cases a]
variable (X:Lr rs tel num){rk:Str->Nat}(K:Rk rk rs)
include X
theorem Ss(g:Gd rs r):cN (k + 2) 40 [lo false rs tel num,.p r.p]= .ok (bC false):=by
 cases r with
 |once d n e=>
   rintro⟨c,ks,r,hd,_⟩:g;exact ce (gF 38 rfl) (wit (bb (d2 #[#[0]] rfl eqT)) (Ax (d2 (Hi rfl #[#[1]] (G5 X hd)) rfl rfl) rfl))
 |CS c q d n e=>
   rintro⟨⟨l,a⟩,ks,r,hd,_⟩:g;rintro⟨i,hi⟩:mem_iff_getElem?.mp a;exact ce (gF 38 rfl) (Ag (bb (d2 #[#[0]] rfl Bc)) (Ag (bb (d2 #[#[0]] rfl XG)) (Am (Hi rfl #[#[3]] (G5 X hd)) (Ax (aI (d2 (dm rfl (ar #[#[1]] (ar #[#[2]] rfl)) (Eu X hi)) rfl rfl) (aI #[rfl] (d2 #[#[0]] #[#[1]] XG))) rfl))))
 |_=>exact ce (gF 38 rfl) (Ag (bb (d2 #[#[0]] rfl Bc)) (wit (bb (d2 #[#[0]] rfl neT)) (Ax rfl rfl)))
include K in
theorem nothing (b:r∈rs) (g:Gd rs r):cN (k + 4) 41 [lo false rs tel num,.p r.p]= .ok (bC false):=by
 rintro⟨ns,e1,l1,h1⟩:JW (k:=k) (X.ok r b) g;rintro⟨ms,e2,l2,h2⟩:Hj (k:=k+2) K b (X.ok r b) g;refine ce (gF 39 rfl) (Ag (bb (av (xs:=ns.map P.str) (BL rfl e1) rfl (by rw[lM];lia) λx a=>?_)) (Ag (bb (av (xs:=ms.map P.str) (BL rfl e2) rfl (by rw[lM];lia) λx a=>?_)) (Ax (ED rfl rfl (Ss X g)) rfl)))
 .obtain⟨n,c,rfl⟩:=mem_map.mp a;rintro⟨m,fs,hf⟩:h1 n c;exact#[_,rfl,d2 (Hi rfl rfl (IH X hf)) rfl rfl]
 .obtain⟨n,c,rfl⟩:=mem_map.mp a;rintro⟨l,hf⟩:h2 n c;exact#[_,rfl,d2 (Hi rfl rfl (DM X hf)) rfl rfl]
theorem L1(i:r∈rs)(g:Gd rs r):cN (k + 3) 42 [lo false rs tel num,.p r.p]= .ok (bC false):=by
 have other:(∀c q l,r≠.Af c q l)->(∀d n e,r≠.once d n e)->(∀c q d n e,r≠.CS c q d n e)->cN (k + 3) 42 [lo false rs tel num,.p r.p]= .ok (bC false):=λb a n3=>by
  rintro⟨e1,l1⟩:GA (k:=k) (X.ok r i)
  have fin:WP ((k + 2)<<<(dR.drop 3)>>>[some (lo false rs tel num),sP r.p]) (λ_=>bC false= .p .AG) (λd=>bC false=d):=by
   refine Ax (av (xs:=(E4 r).map Kd.p) (BL rfl e1) rfl (by rw[lM];lia) λx h=>?_) rfl;rintro⟨y,f,rfl⟩:mem_map.mp h;rintro⟨n,as,fs,rfl,hf⟩:Pe g f;refine#[_,rfl,d2 (d2 (d1 rfl (Av _)) rfl rfl) (Hi rfl #[#[0]] (IH X hf)) (NQ ?_)];simp
  cases r with
  |Af c q l=>exact absurd rfl (b c q l)
  |once d n e=>exact absurd rfl (a d n e)
  |CS c q d n e=>exact absurd rfl (n3 c q d n e)
  |_=>exact ce (gF 40 rfl) (Ag (bb (d2 #[#[0]] rfl Bc)) (Ag (bb (d2 #[#[0]] rfl Bc)) (Ag (bb (d2 #[#[0]] rfl Bc)) fin)))
 cases r with
 |Af c q l=>
   rintro⟨fs,hf⟩:g.2.1;exact ce (gF 40 rfl) (wit (bb (d2 #[#[0]] rfl eqT)) (Ax (d2 (d1 #[#[3]] (Av _)) (Hi rfl #[#[2]] (IH X hf)) (NQ (by simp))) rfl))
 |once d n e=>
   rintro⟨c,ks,r,hd,hl⟩:g;exact ce (gF 40 rfl) (Ag (bb (d2 #[#[0]] rfl Bc)) (wit (bb (d2 #[#[0]] rfl eqT)) (Ax (d2 (d1 #[#[2]] (Av _)) (d1 (d2 (Hi rfl #[#[1]] (G5 X hd)) rfl #[1]) (Av _)) (NQ (by simp[hl]))) rfl)))
 |CS c q d n e=>
   rintro⟨_,ks,r,hd,hl⟩:g;exact ce (gF 40 rfl) (Ag (bb (d2 #[#[0]] rfl Bc)) (Ag (bb (d2 #[#[0]] rfl Bc)) (wit (bb (d2 #[#[0]] rfl eqT)) (Ax (d2 (d1 #[#[4]] (Av _)) (d1 (d2 (Hi rfl #[#[3]] (G5 X hd)) rfl #[1]) (Av _)) (NQ (by simp[hl]))) rfl))))
 |_=>exact other (λ_ _ _ z=>nomatch z) (λ_ _ _ z=>nomatch z) (λ_ _ _ _ _ z=>nomatch z)
end
section
variable {k:Nat}{rs:List Row}{tel num:List (P×P)}{r:Row}(X:Lr rs tel num){rk:Str->Nat}(K:Rk rk rs)
include X
include K in
theorem T4 (a:r∈rs):cN (k + 3) 43 [lo false rs tel num,.p r.p]= .ok (bC false):=by
 cases r with
 |cls n l=>
   rintro⟨fs,e,h1,_⟩:GK (k:=k) X K a;refine ce (gF 41 rfl) (Ax (Ea (d2 #[#[0]] rfl eqT) (d2 #[#[1]] (Hi rfl #[#[1]] e) ?_)) rfl);show((IP (.p (.str n)) (.lst true (fs.map P.str))).map bC)=_;rw[Q1,show fs.contains n=false from by simpa using λh=>Nat.lt_irrefl _ (h1 n h)];rfl
 |_=>exact ce (gF 41 rfl) (Ax (cQ (d2 #[#[0]] rfl Bc)) rfl)
theorem La(s:r∈rs)(g:Gd rs r):cN (k + 3) 44 [lo false rs tel num,.p r.p]= .ok (bC false):=by
 by_cases hd:∃n c ks q,r= .Ba n c ks q
 .have ok :=X.ok r s;rintro⟨e,hl,t⟩:Hu (k:=k+1) ok;have l:∃x∈Bu r,∃i,Kd.op i∈x.w:=by rintro⟨n,c,ks,q,rfl⟩:hd;exact g.2.2
  rintro⟨x0,f,i,hi⟩:l
  have key:∀xs:List Kd,(∀x∈xs,x.ok)->∃ys:List (List P),(C7 (.nm 1) (λ_=>.ok true) (den (cN (k + 2)) (.call 12 [{1}])).v [none,none] (xs.map Kd.p)= .ok (ys.map (.box 0)))/\((∃x∈xs,∃i,Kd.op i∈x.w)->(ys.any λy=>!y.isEmpty)=true):=by
   intro xs
   induction xs with
   |nil=>intro _;exact#[[],rfl,λ⟨x,o,_⟩=>by cases o]
   |cons x xs d=>
     intro h;rintro⟨ys,e1,e2⟩:d λy m=>h y (mem_cons_of_mem _ m)
     rintro⟨ns,A,_,u⟩:opens (k:=k) (h x (by simp));refine#[(ns.map λi=>.int (i:Nat))::ys,?_,?_]
     .show(((k+2)|||(.call 12 [{1}])&&&[none,sP x.p])).bind _=_;rw[BL rfl A];show(C7 (.nm 1) (λ_=>.ok true) (den (cN (k+2)) (.call 12 [{1}])).v [none,none] (xs.map Kd.p)).bind _=_;rw[e1];rfl
     .rintro⟨z,hz,i,hi⟩
      rw[any_cons,Bool.or_eq_true];rcases mem_cons.mp hz with rfl|hz
      .left;have:=(u i).mpr hi;cases ns with
       |nil=>cases this
       |cons _ _=>rfl
      .exact .inr (e2 #[z,hz,i,hi])
  rintro⟨ys,e1,e2⟩:key (Bu r) t
  have a:anyC (.lst true (ys.map (.box 0)))=some (bC true):=by
   show((Cv MV (ys.map (.box 0))).map λbs=>bC (bs.any id))=_
   have:Cv MV (ys.map (.box 0))=some (ys.map λy=>!y.isEmpty):=by
    clear e1 e2
    induction ys with
    |nil=>rfl
    |cons y ys d=>show(some (!y.isEmpty)).bind _=_;rw[Option.bind_some,d];rfl
   rw[this,Option.map_some,List.any_map];exact congrArg (λb=>some (bC b)) (e2 #[x0,f,i,hi])
  rintro⟨n,c,ks,q,rfl⟩:hd;refine ce (gF 42 rfl) (Ax (Ea (d2 #[#[0]] rfl eqT) (e8 (d1 (x:=.lst true (ys.map (.box 0))) ?_ a))) rfl);show(((k+2)|||(.call 36 [{1}])&&&[some (lo false rs tel num),sP (Row.Ba n c ks q).p])).bind _=_;rw[BL rfl e];show(if((Bu (.Ba n c ks q)).map Kd.p).length<=big then(C7 (.nm 1) (λ_=>.ok true) (den (cN (k+2)) (.call 12 [{1}])).v [none,none] ((Bu (.Ba n c ks q)).map Kd.p)).bind _ else _)=_;rw[iP (show _<=big from by rw[lM];exact Nat.le_trans hl #[]),e1];rfl
 .cases r with
  |Ba n c ks q=>exact absurd #[n,c,ks,q,rfl] hd
  |_=>exact ce (gF 42 rfl) (Ax (cQ (d2 #[#[0]] rfl Bc)) rfl)
theorem Ld(h:r∈rs)(g:Gd rs r):cN (k + 3) 45 [lo false rs tel num,.p r.p]= .ok (bC false):=by
 cases r with
 |Af c q l=>
   rintro⟨⟨el,b,_⟩,_,_,o⟩:g;rintro⟨i,hi⟩:mem_iff_getElem?.mp h;rintro⟨ns,e,hl,m⟩:K8 (k:=k+1) X b;refine ce (gF 43 rfl) (Ag (bb (d2 #[#[0]] rfl XG)) (Am (dm rfl (ar #[#[1]] (ar #[#[2]] rfl)) (Eu X hi)) (Ax (av (xs:=ns.map P.str) (Hi rfl #[#[1]] e) rfl (by rw[lM];lia) λx f=>?_) rfl)));rintro⟨n,a,rfl⟩:mem_map.mp f;rintro⟨ks,d,hd⟩:(m n).mp a;rintro⟨j,s⟩:TH (k:=k) X hi b hd (o n ks d hd);exact#[_,rfl,d2 (dm rfl (ar rfl (ar rfl rfl)) s) rfl rfl]
 |_=>exact ce (gF 43 rfl) (wit (bb (d2 #[#[0]] rfl neT)) (Ax rfl rfl))
include K in
theorem T7 {a b:Option Str} (h:cG rs a b):cN (k + 3) 46 [lo false rs tel num,.p (oP a),.p (oP b)]= .ok (bC true):=by
 rcases h with rfl|rfl|⟨x,y,l,rfl,rfl,h1,h2⟩
 .exact ce (gF 44 rfl) (wit (QA (bb #[rfl])) (Ax rfl rfl))
 .cases a with
  |none=>exact ce (gF 44 rfl) (wit (QA (bb #[rfl])) (Ax rfl rfl))
  |some x=>exact ce (gF 44 rfl) (wit (CV (bb #[rfl]) (bb #[eqT])) (Ax rfl rfl))
 .obtain⟨fs,e,g1,g2⟩:=GK (k:=k) X K h1;have ne:x≠y:=λe=>Nat.lt_irrefl _ (e▸(K y l h1 x h2).1)
  refine ce (gF 44 rfl) (Ag (CV (bb #[rfl]) (bb #[Bc (dF ne)])) (Ax (Ea #[rfl] (d2 rfl (Hi rfl rfl e) ?_)) rfl));show((IP (.p (.str x)) (.lst true (fs.map P.str))).map bC)=_;rw[Q1,show fs.contains x=true from by simpa using g2 x h2];rfl
omit X in
theorem G8 {ps qs:List P}:Jh (.p (.tup [.tup ps,.tup qs]))=some ((ps.zip qs).map λq=>.tup [q.1,q.2]):=rfl
include K in
theorem JV (m:r∈rs) (g:Gd rs r):cN (k + 4) 47 [lo false rs tel num,.p r.p]= .ok (bC false):=by
 cases r with
 |Af c q l=>
   rintro⟨⟨el,o,he⟩,_⟩:g;have hl:=(X.ok _ m).2.2.1;refine ce (gF 45 rfl) (Ag (bb (d2 #[#[0]] rfl XG)) (EK (λj U=>∃y z,U=[some (lo false rs tel num),sP (Row.Af c q l).p,y,z]) (Hi rfl #[#[1]] (DM X o)) rfl #[none,none,rfl] ?_ ?_))
   .rintro j x d _ ⟨y,z,rfl⟩
    rw[List.getElem?_map]at d;rintro⟨e,f,rfl⟩:oM d;rintro⟨h,n,hf⟩:he e (mem_of_getElem? f);rintro⟨i,hi⟩:mem_iff_getElem?.mp n;refine#[_,rfl,Am (dm rfl (ar rfl (ar #[#[2]] rfl)) (Eu X hi)) (Ag (bb #[rfl]) (Ag (H8 (bb (ZN (xs:=((h.map oP).zip (l.map oP)).map λq=>.tup [q.1,q.2]) (d2 (Hi rfl rfl (JQ X hi)) #[#[3]] rfl) G8 ?_ λx d=>?_))) #[_,_,rfl]))]
    .rw[lM,length_zip,lM,lM];lia
    .rw[List.zip_map]at d;rintro⟨_,h1,rfl⟩:mem_map.mp d;rintro⟨⟨a,b⟩,h2,rfl⟩:mem_map.mp h1;exact#[_,rfl,dc (ar rfl (ar rfl (ar rfl rfl))) (T7 X K (hf (a,b) h2))]
   .rintro _ ⟨y,z,rfl⟩
    exact Ax rfl rfl
 |_=>exact ce (gF 45 rfl) (wit (bb (d2 #[#[0]] rfl neT)) (Ax rfl rfl))
theorem Cm{f:Nat}(h:∀r∈rs,cN (k + 1) f [lo false rs tel num,.p r.p]= .ok (bC false)):cN (k + 2) 48 [lo false rs tel num,.p (.fn f [])]= .ok (.p .AG):=by
 refine ce (gF 46 rfl) (EK (λj U=>∃y z,U=[some (lo false rs tel num),sP (.fn f []),y,z]) (dm rfl rfl (Iv X)) rfl #[none,none,rfl] ?_ ?_)
 .rintro j x b _ ⟨y,z,rfl⟩
  rintro⟨x,a,rfl⟩:G4 b;rw[List.getElem?_map]at a;rintro⟨r,c,rfl⟩:oM a;exact#[_,rfl,Ag (bb (dz rfl (ar rfl (ar rfl rfl)) (h r (mem_of_getElem? c)))) #[_,_,rfl]]
 .rintro _ ⟨y,z,rfl⟩
  exact Ax rfl rfl
include K in
theorem SD (nd:(Ds++rs.flatMap told).Nodup) (g:∀r∈rs,Gd rs r):cN (k + 6) 49 [lo false rs tel num]= .ok (.p .AG):=
 ce (gF 47 rfl) (Am (BL (dm rfl rfl (Iv X)) (Kz X.ok X.hl nd)) (Ag (bb #[rfl]) (Am (ED rfl rfl (Cm X λr a=>nothing X K a (g r a))) (Ag (bb #[rfl]) (Am (ED rfl rfl (Cm X λr a=>L1 X a (g r a))) (Ag (bb #[rfl]) (Am (ED rfl rfl (Cm X λr a=>T4 X K a)) (Ag (bb #[rfl]) (Am (ED rfl rfl (Cm X λr a=>La X a (g r a))) (Ag (bb #[rfl]) (Am (ED rfl rfl (Cm X λr a=>Ld X a (g r a))) (Ag (bb #[rfl]) (Am (ED rfl rfl (Cm X λr a=>JV X K a (g r a))) (Ag (bb #[rfl]) rfl))))))))))))))
end
structure Wf(rk:Str->Nat)(rs:List Row):Prop where
 ok:∀r∈rs,r.ok
 hl:rs.length<=40
 nd:(Ds++rs.flatMap told).Nodup
 rk:Rk rk rs
 g:∀r∈rs,Gd rs r
theorem SA{k:Nat}{rk:Str->Nat}(w:Wf rk rs):∃tel num,Lr rs tel num/\cN (k + 12) 69 [.obj true [],.lst true (rs.map Row.p)]= .ok (lo true rs tel num):=by
 have nd:((own++rs).flatMap told).Nodup:=by
  refine List.Nodup.sublist ?_ w.nd;rw[flatMap_append];exact List.Sublist.append (List.sublist_append_left _ _) (List.Sublist.refl _)
 rintro⟨tel,num,h1,h2,e⟩:init (k:=k) w.ok w.hl nd λtel num d1 d2=>SD (k:=k+5) #[d1,d2,nd,w.ok,w.hl] w.rk w.nd w.g
 exact#[tel,num,#[h1,h2,nd,w.ok,w.hl],e]
theorem BH{n j:Nat}{x:P}(h:(Az 0 n)[j]? =some x):j < n/\x= .int j:=by
 unfold Az at h;rw[List.getElem?_map]at h;rintro⟨i,h1,rfl⟩:oM h;rintro⟨h2,a⟩:List.getElem?_eq_some_iff.mp h1;rw[List.getElem_range]at a;subst a;rw[length_range]at h2;exact#[by lia,by simp]
theorem Cd{n:Nat}(h:n < 1000):DQ (.p (.int n))=some (Az 0 n):=iP (show(n:Int).natAbs < 2 ^ 61 by rw[Int.natAbs_natCast];exact Nat.lt_trans h #[])
theorem Bj(n:Nat):(Az 0 n).length=n:=by simp[Az]
section
variable{k:Nat}{rs:List Row}{c q:Str}{ps:List P}
def UI:P->List P
 |.tup ps=>ps.take 3
 |_=>[]
def hq(c q:Str):P:=.tup [.str "house",.str c,.str q]
theorem X4{r:Row}(h:r.ok):Ou (.p r.p) (.p (.int 3))=some (.p (.tup (UI r.p)))/\BM (.tup (UI r.p)) (hq c q)=true/\(P.tup (UI r.p)).depth<=90:=by
 have b:∀l:List Str,P.Bi (l.map P.str)=0:=λl=>by
  induction l with
  |nil=>rfl
  |cons a l f=>show max 0 _=0;rw[f];rfl
 cases r with
 |ask e=>cases e<;>exact#[rfl,rfl,Nat.le_of_ble_eq_true rfl]
 |cls n l=>refine#[rfl,rfl,?_];show max 0 (max 0 (max (P.Bi (l.map P.str)+1) 0))+1<=90;rw[b];decide
 |once d n e=>refine#[rfl,rfl,?_];show max 0 (max 0 (max (P.Bi ((Jl n).map P.str)+1) 0))+1<=90;rw[b];decide
 |_=>exact#[rfl,rfl,Nat.le_of_ble_eq_true rfl]
theorem Q4{r:Row}:P.tup (UI r.p)=hq c q↔∃l,r= .Af c q l:=by
 constructor
 .intro h;have h:UI r.p=[.str "house",.str c,.str q]:=by injection h
  cases r with
  |Af c' a l=>
    have h:[P.str "house",.str c',.str a]=[.str "house",.str c,.str q]:=h;simp at h;rw[h.1,h.2];exact#[l,rfl]
  |_=>exact absurd (show(some (P.str _):Option P)=some (.str "house")from congrArg List.head? h) (by decide +kernel)
 .rintro⟨l,rfl⟩;rfl
theorem Ni{x:List P}(ok:∀r∈rs,r.ok)(hl:rs.length<=40):∃y:P,cN (k + 1) 65 [.lst false (rs.map Row.p),.p (.str c),.p (.tup (.str q::x))]= .ok (.p y)/\((∃i l,rs[i]? =some (.Af c q l)/\y= .int (i:Nat))\/(∀l,.Af c q l∉rs)/\y= .AG):=by
 rintro⟨_,e,y,rfl,h⟩:cw (k:=k) (args:=[.lst false (rs.map Row.p),.p (.str c),.p (.tup (.str q::x))]) (R:=λz=>∃y:P,z= .p y/\((∃i l,rs[i]? =some (.Af c q l)/\y= .int (i:Nat))\/(∀l,.Af c q l∉rs)/\y= .AG)) (gF 63 rfl) (by
  have a:DQ (.p (.int (rs.map Row.p).length))=some (Az 0 rs.length):=by rw[lM];exact Cd (by lia)
  refine EK (λj U=>(∃y,U=[sL false (rs.map Row.p),sS c,sP (.tup (.str q::x)),y])/\∀i,i < j->∀l,rs[i]?≠some (.Af c q l)) (d1 rfl (B0 _)) a #[#[none,rfl],λi h=>absurd h (Nat.not_lt_zero _)] ?_ ?_
  .rintro j y f _ ⟨⟨z,rfl⟩,b⟩
   rintro⟨d,rfl⟩:BH f;have a:rs[j]? =some rs[j]:=List.getElem?_eq_getElem d;rintro⟨e1,e2,g⟩:X4 (c:=c) (q:=q) (ok rs[j] (getElem_mem d));have es:Ae (.lst false (rs.map Row.p)) (.p (.int j))=some (.p rs[j].p):=AA rfl (by rw[List.getElem?_map,a];rfl);have eq:Bd (.p (.tup (UI rs[j].p))) (.p (hq c q))=some (bC (decide (P.tup (UI rs[j].p)=hq c q))):=by unfold Bd;rw[aq e2 g];rfl
   refine#[_,rfl,?_]
   by_cases h:P.tup (UI rs[j].p)=hq c q
   .rw[dZ h]at eq;rintro⟨l,hl⟩:Q4.mp h;exact wit (bb (d2 (d2 #[es] rfl e1) (dt (fz rfl (fz rfl (fz #[#[0]] rfl)))) eq)) (MQ #[_,rfl,.inl #[j,l,by rw[a,hl],rfl]])
   .rw[dF h]at eq;refine Ag (bb (d2 (d2 #[es] rfl e1) (dt (fz rfl (fz rfl (fz #[#[0]] rfl)))) eq)) #[#[_,rfl],λi hi l=>?_];rcases Nat.lt_succ_iff_lt_or_eq.mp hi with hi|rfl
    .exact b i hi l
    .rw[a];intro z;exact h (Q4.mpr #[l,Option.some.inj z])
  .rintro _ ⟨⟨z,rfl⟩,b⟩
   rw[Bj]at b
   exact Ax rfl #[_,rfl,.inr #[λl hm=>by rintro⟨i,hi⟩:mem_iff_getElem?.mp hm;exact b i (List.getElem?_eq_some_iff.mp hi).1 l hi,rfl]])
 exact#[y,e,h]
end
def Q0(rs:List Row):Nat->P->Prop
 |0,_=>False
 |n+1,x=>∃q ps,x= .tup (.str q::ps)/\ps.length<=3/\(∀y∈ps,Q0 rs n y)/\∃fs,.kind q ps.length fs∈own++rs
section
variable {k:Nat}{rs:List Row}{tel num:List (P×P)}(X:Lr rs tel num)
theorem Sx{i j:Nat}(h:P.int (i:Int)= .int (j:Int)):i=j:=by injection h with h;exact_mod_cast h
include X
theorem PJ{m b:Nat}{f c:List (Str×List Kd)}(h: .kind q m f∈own++rs)(h': .kind q b c∈own++rs):m=b:=by
 have a:=ER X h (y:=["kind",q]) (by simp[told]);rw[ER X h' (y:=["kind",q]) (by simp[told])]at a;have a:[P.str "kind",.str q,.int b,.tup (c.map fP)]=[P.str "kind",.str q,.int m,.tup (f.map fP)]:=by injection a with a;injection a
 injection a with _ a
 injection a with _ a
 injection a with a _
 exact(Sx a).symm
structure Tr(rs:List Row)(tel num:List (P×P))(k k2:Nat)(o:Bool)(c:Str)(x t:P)(b:Bool):Prop where
 tr:cN k 4 [lo false rs tel num,.lst o [],.p (.str c),.p x]= .ok (.p t)
 lk:cN k2 67 [.lst false (rs.map Row.p),.p (.str c),.p x]= .ok (bC b)
 no:t= .AG->b=true
 wk:t≠.AG->cN k2 66 [.lst false (rs.map Row.p),.p t,.p (.str c),.p x]= .ok (bC true)
omit X in
theorem LR {l:List (Option Str)} {ps:List P} {j:Nat} {x:P} (h:((((l.map oP).zip ps).map λq=>P.tup [q.1,q.2]))[j]? =some x):∃o y,l[j]? =some o/\ps[j]? =some y/\x= .tup [oP o,y]:=by
 rw[List.getElem?_map]at h;rintro⟨⟨a,y⟩,h1,rfl⟩:oM h;rintro⟨h2,c⟩:List.getElem?_zip_eq_some.mp h1;rw[List.getElem?_map]at h2;rintro⟨o,b,rfl⟩:oM h2;exact#[o,y,b,c,rfl]
def Rl(rs:List Row)(k:Nat)(o:Option Str)(u t:P):Prop:=(o=none/\t= .AG)\/∃e,o=some e/\t≠.AG/\cN k 66 [.lst false (rs.map Row.p),.p t,.p (.str e),.p u]= .ok (bC true)
def cA(rs:List Row)(k:Nat)(l:List (Option Str))(ps ts:List P):Prop:=∀(m:Nat) (o:Option Str) (u t:P),l[m]? =some o->ps[m]? =some u->ts[m]? =some t->Rl rs k o u t
theorem LX{k2:Nat}(g:∀r∈rs,Gd rs r):∀(n:Nat) (o:Bool) (c:Str) (x:P),Q0 rs n x->∃t b,Tr rs tel num (k + n + 2) (k2 + n + 2) o c x t b
 |0,_,_,_,h=>h.elim
 | n + 1, o,c,_,⟨q,ps,rfl,A,V,fs,hf⟩=>by
   have Q:=LX (k2:=k2) g n false;rintro⟨y,N,S⟩:Ni (k:=k2+n+1) (rs:=rs) (c:=c) (q:=q) (x:=ps) X.ok X.hl;have sl:M7 (.p (.tup (.str q::ps))) (.p (.int 1))=some (.p (.tup ps)):=Ov;rcases S with⟨i,l,hi,rfl⟩|⟨W,rfl⟩
   rotate_left
   .exact#[.AG,true,ce (gF 3 rfl) (Ag (bb (d1 rfl rfl)) (Am (dm rfl (ar rfl (ar #[#[0]] rfl)) (Q2 X W)) (wit (bb #[rfl]) (Ax rfl rfl)))),ce (gF 65 rfl) (Am (dc (ar rfl (ar rfl (ar rfl rfl))) N) (wit (bb #[rfl]) (Ax rfl rfl))),λ_=>rfl,λh=>absurd rfl h]
   have f:l.length=ps.length:=by rintro⟨_,⟨fs',J⟩,_⟩:g _ (mem_of_getElem? hi);exact PJ X J hf
   have B:∀(m:Nat) (e:Str) (u:P),l[m]? =some (some e)->ps[m]? =some u->∃t b,Tr rs tel num (k+n+2) (k2+n+2) false e u t b:=λm e u _ d=>Q e u (V u (mem_of_getElem? d))
   have es:Ae (.lst false (rs.map Row.p)) (.p (.int i))=some (.p (Row.Af c q l).p):=AA rfl (by rw[List.getElem?_map,hi];rfl)
   obtain ⟨_,Z,t,rfl,H⟩:=cw (k:=k + n + 2) (args:=[lo false rs tel num,.lst o [],.p (.str c),.p (.tup (.str q::ps))]) (R:=λz=>∃t,z= .p t/\((t= .AG/\∃(m:Nat) (e:Str) (u:P),l[m]? =some (some e)/\ps[m]? =some u/\cN (k2 + n + 2) 67 [.lst false (rs.map Row.p),.p (.str e),.p u]= .ok (bC true))\/∃ts:List P,t= .tup [.str "house",.int i,.tup ts]/\ts.length=l.length/\cA rs (k2 + n + 2) l ps ts)) (gF 3 rfl) (by
    refine Ag (bb (d1 rfl rfl)) (Am (dm rfl (ar rfl (ar #[#[0]] rfl)) (Eu X hi)) (Ag (bb #[rfl]) (Am (dl rfl) (EK (xs:=((l.map oP).zip ps).map λq=>.tup [q.1,q.2]) (λj U=>∃(ts:List P) (y z w:Option C),U=[some (lo false rs tel num),sL o [],sS c,sP (.tup (.str q::ps)),sI i,sL true ts,y,z,w]/\ts.length=j/\cA rs (k2+n+2) l ps ts) (d2 (Hi rfl rfl (JQ X hi)) #[sl] rfl) G8 #[[],none,none,none,rfl,rfl,λm o u t _ _ h=>by cases h] ?_ ?_))))
    .rintro j x D _ ⟨ts,y,z,w,rfl,s,a⟩
     rintro⟨o',u,v,d,rfl⟩:LR D;have Y:=(List.getElem?_eq_some_iff.mp d).1
     have more:∀t,Rl rs (k2 + n + 2) o' u t->cA rs (k2 + n + 2) l ps (ts++[t]):=λt H m o u t' h1 h2 A=>by
      rw[List.getElem?_append]at A;split at A
      .exact a m o u t' h1 h2 A
      .rename_i hm;have:m=j:=by have:=(List.getElem?_eq_some_iff.mp A).1;simp at this;lia
       subst this;rw[s,Nat.sub_self]at A;rw[v]at h1;rw[d]at h2;cases h1;cases h2;cases A;exact H
     refine#[_,rfl,?_];cases o' with
     |none=>exact Am (bY (bb #[rfl]) rfl) (Ag (UU (bb #[rfl])) (Jj (ps:=ts) (p:=.AG) rfl (by lia) #[ts++[.AG],_,_,_,rfl,by simp[s],more _ (.inl #[rfl,rfl])]))
     |some e=>
       rintro⟨t,b,T⟩:B j e u v d;refine Am (ZM (bb #[rfl]) (dc (ar rfl (ar rfl (ar rfl (ar rfl rfl)))) T.tr)) ?_
       by_cases htn:t= .AG
       .subst htn;have K:=T.no rfl;subst K;exact wit (QF (bb #[rfl]) (bb #[rfl])) (Ax rfl #[_,rfl,.inl #[rfl,j,e,u,v,d,T.lk]])
       .exact Ag (QF (bb #[rfl]) (bb #[show Fw (.p t) (.p .AG)=some (bC false)from congrArg (λb=>some (bC b)) (dF htn)])) (Jj (ps:=ts) (p:=t) rfl (by lia) #[ts++[t],_,_,_,rfl,by simp[s],more _ (.inr #[e,rfl,htn,T.wk htn])])
    .rintro _ ⟨ts,y,z,w,rfl,s,a⟩
     rw[lM,length_zip,lM,f,Nat.min_self]at s
     exact Ax (dt (fz rfl (fz rfl (fz (d1 rfl rfl) rfl)))) #[_,rfl,.inr #[ts,rfl,by rw[s,f],a]])
   rintro⟨_,el,b,rfl,K⟩:cw (k:=k2 + n + 2) (args:=[.lst false (rs.map Row.p),.p (.str c),.p (.tup (.str q::ps))]) (R:=λz=>∃b,z=bC b/\(b=false->∀(m:Nat) (e:Str) (u:P),l[m]? =some (some e)->ps[m]? =some u->cN (k2 + n + 2) 67 [.lst false (rs.map Row.p),.p (.str e),.p u]= .ok (bC false))) (gF 65 rfl) (by
    refine Am (dc (ar rfl (ar rfl (ar rfl rfl))) N) (Ag (bb #[rfl]) (EK (xs:=((l.map oP).zip ps).map λq=>.tup [q.1,q.2]) (λj U=>(∃y z,U=[sL false (rs.map Row.p),sS c,sP (.tup (.str q::ps)),sI i,y,z])/\∀(m:Nat) (e:Str) (u:P),m < j->l[m]? =some (some e)->ps[m]? =some u->cN (k2+n+2) 67 [.lst false (rs.map Row.p),.p (.str e),.p u]= .ok (bC false)) (d2 (d2 #[es] rfl #[3]) #[sl] rfl) G8 #[#[none,none,rfl],λm e u h=>absurd h (Nat.not_lt_zero _)] ?_ ?_))
    .rintro j x D _ ⟨⟨y,z,rfl⟩,a⟩
     rintro⟨o',u,v,d,rfl⟩:LR D;refine#[_,rfl,?_];cases o' with
     |none=>exact Ag (UU (bb #[rfl])) #[#[_,_,rfl],λm e u' hm h1 h2=>(Nat.lt_succ_iff_lt_or_eq.mp hm).elim (λh=>a m e u' h h1 h2) λh=>by subst h;rw[v]at h1;cases h1]
     |some e=>
       rintro⟨t,b,T⟩:B j e u v d;cases b with
       |true=>exact wit (QF (bb #[rfl]) (bb (dc (ar rfl (ar rfl (ar rfl rfl))) T.lk))) (Ax rfl #[true,rfl,λh=>by cases h])
       |false=>exact Ag (QF (bb #[rfl]) (bb (dc (ar rfl (ar rfl (ar rfl rfl))) T.lk))) #[#[_,_,rfl],λm e u' hm h1 h2=>(Nat.lt_succ_iff_lt_or_eq.mp hm).elim (λh=>a m e u' h h1 h2) λh=>by subst h;rw[v]at h1;rw[d]at h2;cases h1;cases h2;exact T.lk]
    .rintro _ ⟨⟨y,z,rfl⟩,a⟩
     rw[lM,length_zip,lM,f,Nat.min_self]at a
     exact Ax rfl #[false,rfl,λ_ m e u h1 h2=>a m e u (List.getElem?_eq_some_iff.mp h2).1 h1 h2])
   refine#[t,b,Z,el,λh=>?_,λh=>?_]
   .rcases H with⟨_,m,e,u,h1,h2,M⟩|⟨ts,rfl,_⟩
    .cases b with
     |true=>rfl
     |false=>have:=K rfl m e u h1 h2;rw[M]at this;cases this
    .cases h
   .rcases H with⟨h',_⟩|⟨ts,rfl,I,a⟩
    .exact absurd h' h
    .refine ce (gF 64 rfl) (Ag (CV (H8 (bb (d1 rfl rfl))) (CV (bb (d2 (d1 rfl (Av _)) rfl (NQ rfl))) (CV (bb (d2 #[#[0]] rfl XG)) (H8 (bb (d1 #[#[2]] rfl)))))) (Ag (CV (bb (d1 #[#[1]] rfl)) (CV (bb (d2 #[#[1]] (dc (ar rfl (ar rfl (ar rfl rfl))) N) (NQ rfl))) (bb (d2 (d1 #[#[2]] (Av _)) (d2 (d1 rfl (Av _)) rfl rfl) (NQ (by rw[I,f];simp)))))) (EK (λj U=>∃y z,U=[sL false (rs.map Row.p),sP (.tup [.str "house",.int i,.tup ts]),sS c,sP (.tup (.str q::ps)),y,z]) (d1 #[#[2]] (Av _)) (Cd (by lia)) #[none,none,rfl] ?_ ?_)))
     .rintro j x D _ ⟨y,z,rfl⟩
      rintro⟨s,rfl⟩:BH D;have G:l[j]? =some l[j]:=List.getElem?_eq_getElem (by lia);have F:ps[j]? =some ps[j]:=List.getElem?_eq_getElem (by lia);have E:ts[j]? =some ts[j]:=List.getElem?_eq_getElem s;have e5:Ae (.p (.tup (l.map oP))) (.p (.int j))=some (.p (oP l[j])):=AA rfl (by rw[List.getElem?_map,G];rfl);have O:Ae (.p (.tup ts)) (.p (.int j))=some (.p ts[j]):=AA rfl E;have e7:Ae (.p (.tup (.str q::ps))) (.p (.int ((j+1:Nat):Int)))=some (.p ps[j]):=AA rfl (by rw[List.getElem?_cons_succ];exact F);refine#[_,rfl,Am (d2 (d2 (d2 rfl #[#[1]] es) rfl #[3]) rfl e5) ?_];rcases a j _ _ _ G F E with⟨h1,h2⟩|⟨e,h1,h2,M⟩
      .rw[h1];rw[h2]at O;exact wit (bb #[rfl]) (Ag (bb (d2 (d2 #[#[2]] rfl O) rfl rfl)) (Cn #[_,_,rfl]))
      .rw[h1];exact Y9 (bb #[rfl]) (Ag (H8 (bb (dc (ar rfl (ar (d2 #[#[2]] rfl O) (ar rfl (ar (d2 rfl #[show Ad (.p (.int j)) (.p (.int 1))=some (.p (.int ((j+1:Nat):Int)))from rfl] e7) rfl)))) M))) (Cn #[_,_,rfl]))
     .rintro _ ⟨y,z,rfl⟩
      exact Ax rfl rfl
end
theorem AK(i j:Int):Ad (.p (.int i)) (.p (.int j))=some (.p (.int (i+j))):=rfl
theorem D7(i:Int)(h:0 < j):Aw Du (.p (.int i)) (.p (.int j))=some (.p (.int (i % j))):=by
 show((if 0 < j then some (i%j)else none).map λk=>C.p (.int k))=_;rw[iP h];rfl
theorem Dh(i:Int)(h:0 < j/\j < 1073741824):Aw EB (.p (.int i)) (.p (.int j))=some (.p (.int (i / j))):=by
 show((if 0 < j/\j < 1073741824 then some (i/j)else none).map λk=>C.p (.int k))=_;rw[iP h];rfl
theorem HC{i:Int}(h:(-(2 ^ 64) < i/\i < 2 ^ 64)\/(-(2 ^ 64) < j/\j < 2 ^ 64)):mulC (.p (.int i)) (.p (.int j))=some (.p (.int (i * j))):=by
 show(((if(-(2 ^ 64) < i/\i < 2 ^ 64)\/(-(2 ^ 64) < j/\j < 2 ^ 64)then some (i*j)else none).map λk=>C.p (.int k)))=_;rw[iP h];rfl
theorem Hn{N b:Env->Prop}{R a:C->Prop}(h1:∀U,N U->b U)(h2:∀c,R c->a c)(h:WP r N R):WP r b a:=by
 cases r<;>first|exact h1 _ h|exact h2 _ h|exact h
section
variable{k:Nat}{o:Bool}
theorem Xe(i j:Int):Bd (.p (.int i)) (.p (.int j))=some (bC (decide (i=j))):=by unfold Bd;rw[au];rfl
theorem bE(i j:Int):Eo (.p (.int i)) (.p (.int j))=some (bC (!decide (i=j))):=by unfold Eo;rw[au];rfl
theorem DS{i j:Int}(h:i≠j):Bd (.p (.int i)) (.p (.int j))=some (bC false):=by rw[Xe,dF h]
theorem mixed(ns:List Int)(i:Nat)(hi:i<=100):∃c:Int,0<=c/\cN (k + 1) 50 [.lst o (ns.map P.int),.p (.int i)]= .ok (.p (.int c)):=by
 have fin:∀v:Int,0<=v->v < 2147483629->WP (k<<<(dQ.drop 2)>>>[sL o (ns.map P.int),sI i,sI v]) (λ_=>False) (λz=>∃c:Int,0<=c/\z= .p (.int c)):=λv h1 h2=>
  Ax (d2 (d2 (d2 (d2 (d2 #[HC (.inl #[by lia,by lia])] #[HC (.inl #[by decide,by decide])] (AK _ _)) (d2 #[HC (.inl #[by decide,by decide])] rfl (HC (.inr #[by lia,by lia]))) (AK _ _)) rfl (AK _ _)) rfl (HC (.inr #[by decide,by decide]))) rfl (D7 _ #[])) #[_,Int.emod_nonneg _ #[],rfl]
 have key:∃z,cN (k + 1) 50 [.lst o (ns.map P.int),.p (.int i)]= .ok z/\∃c:Int,0<=c/\z= .p (.int c):=by
  by_cases h:i < ns.length
  .have e:Ae (.lst false (ns.map P.int)) (.p (.int i))=some (.p (.int ns[i])):=AA rfl (by rw[List.getElem?_map,List.getElem?_eq_getElem h];rfl);refine cw (gF 48 rfl) (Am rfl (wit (bb (d2 rfl (d1 rfl (B0 _)) (JR (by simp;exact h)))) (Am (d2 #[e] rfl (D7 _ #[])) (Cn ?_))));have:=fin (ns[i]%2147483629) (Int.emod_nonneg _ #[]) (Int.emod_lt_of_pos _ #[])
   revert this
   exact Hn (λ_ h=>h.elim) λz h=>h
  .obtain⟨z,hz⟩:∃z:Int,z=0:=#[0,rfl];refine cw (gF 48 rfl) (Am (c:=.p (.int z)) (by rw[hz];rfl) (Ag (bb (d2 rfl (d1 rfl (B0 _)) (FJ (by simp;lia)))) ?_));have:=fin z (by lia) (by lia)
   revert this
   exact Hn (λ_ h=>h.elim) λz h=>h
 rintro⟨z,e,c,h1,rfl⟩:key;exact#[c,h1,e]
end
theorem bF{i:Int}(h:i≠j):Eo (.p (.int i)) (.p (.int j))=some (bC true):=by rw[bE,dF h];rfl
structure K3(rs:List Row)(kk:Nat->Str):Prop where
 all:∀n m fs,.kind n m fs∈rs->m < 3/\n=kk m
 has:∀m,m < 3->∃fs,.kind (kk m) m fs∈rs
abbrev kL(o:Bool)(kk:Nat->Str):C:=.lst o [.str (kk 0),.str (kk 1),.str (kk 2)]
section
variable {k:Nat}{rs:List Row}{kk:Nat->Str}(H:K3 rs kk)
include H
theorem closed:∀(d:Nat) (c:Int),∃x,Q0 rs (d + 1) x/\cN (k + d + 1) 63 [.p (.int c),kL false kk,.p (.int d)]= .ok (.p x):=by
 have leaf:∀n q,(∃fs,.kind q 0 fs∈own++rs)->Q0 rs (n+1) (.tup [.str q]):=λn q h=>#[q,[],rfl,Nat.zero_le _,(λy g=>by cases g),h]
 have hw:∀(q:Str) m,m < 3->∃fs,.kind (kk m) m fs∈own++rs:=λ_ m h=>(H.has m h).imp λfs h=>mR h
 have two:∀(w:Int) d k c,0<=w->(∃fs,.kind "whole" 0 fs∈own++rs)->(∃fs,.kind "truth" 0 fs∈own++rs)->∃x,Q0 rs (d + 1) x/\k|||(.A1 Ae (.lst [(.tup [{"whole"}]),(.tup [{"truth"}])]) (.A1 (Aw Du) {3} {2,0}))&&&[sI c,some (kL false kk),sI (d:Nat),sI w]= .ok (.p x):=λw d k c h0 h1 h2=>by
  have hm:w%2=0\/w%2=1:=by lia
  rcases hm with hm|hm
  .exact#[_,leaf d _ h1,d2 (dl (fz (dt (fz rfl rfl)) (fz (dt (fz rfl rfl)) rfl))) #[D7 w #[]] (by rw[hm];exact AA (i:=0) rfl rfl)]
  .exact#[_,leaf d _ h2,d2 (dl (fz (dt (fz rfl rfl)) (fz (dt (fz rfl rfl)) rfl))) #[D7 w #[]] (by rw[hm];exact AA (i:=1) rfl rfl)]
 have e:∃fs,Row.kind "whole" 0 fs∈own++rs:=#[[],by simp[own]];have b:∃fs,Row.kind "truth" 0 fs∈own++rs:=#[_,mL (mem_cons_of_mem _ mS)];intro d
 induction d with
 |zero=>
   intro c;obtain⟨w,a⟩:∃w,w=c%6:=#[_,rfl];have h0:0<=w:=by rw[a];exact Int.emod_nonneg _ #[]
   have t:w < 6:=by rw[a];exact Int.emod_lt_of_pos _ #[]
   have e0:Aw Du (.p (.int c)) (.p (.int 6))=some (.p (.int w)):=by rw[a];exact D7 c #[]
   by_cases h2:w=2
   .exact#[_,leaf 0 _ (hw "" 0 #[]),ce (gF 61 rfl) (Am #[e0] (Ag (CV (bb #[FJ (by lia)]) (QF (bb #[K6 rfl]) (bb #[NQ h2]))) (wit (bb #[K6 h2]) (Ax (dt (fz #[#[0]] rfl)) rfl))))]
   .obtain⟨x,f,ex⟩:=two w 0 k c h0 e b;refine#[x,f,ce (gF 61 rfl) (Am #[e0] (wit ?_ (Ax ex rfl)))]
    by_cases h1:w < 2
    .exact QA (bb #[JR h1])
    .exact CV (bb #[FJ h1]) (QF (bb #[K6 rfl]) (bb #[bF h2]))
 |succ d l=>
   intro c;obtain⟨w,a⟩:∃w,w=c%6:=#[_,rfl];have h0:0<=w:=by rw[a];exact Int.emod_nonneg _ #[]
   have e0:Aw Du (.p (.int c)) (.p (.int 6))=some (.p (.int w)):=by rw[a];exact D7 c #[]
   have es:Aw ET (.p (.int ((d+1:Nat):Int))) (.p (.int 1))=some (.p (.int d)):=by show some (C.p (.int (((d+1:Nat):Int)-1)))=_;rw[show((d+1:Nat):Int)-1=d by lia]
   have r:((d+1:Nat):Int)≠0:=by lia
   by_cases h1:w < 2
   .obtain⟨x,f,ex⟩:=two w (d+1) (k+(d+1)) c h0 e b;exact#[x,f,ce (gF 61 rfl) (Am #[e0] (wit (QA (bb #[JR h1])) (Ax ex rfl)))]
   .have hd:∀{R:C->Prop} {N:Env->Prop},WP ((k+(d+1))<<<(cJ.drop 2)>>>[sI c,some (kL false kk),sI ((d+1:Nat):Int),sI w]) N R->WP ((k+(d+1))<<<cJ>>>[sI c,some (kL false kk),sI ((d+1:Nat):Int),none]) N R:=λh=>Am #[e0] (Ag (CV (bb #[FJ h1]) (UU (bb #[DS r]))) h)
    by_cases h2:w=2
    .exact#[_,leaf _ _ (hw "" 0 #[]),ce (gF 61 rfl) (hd (wit (bb #[K6 h2]) (Ax (dt (fz #[#[0]] rfl)) rfl)))]
    .obtain⟨x,f,ex⟩:=l (c/6)
     by_cases o:w < 5
     .exact#[.tup [.str (kk 1),x],#[_,[x],rfl,Nat.le_of_ble_eq_true rfl,λy g=>by rw[mE g];exact f,hw "" 1 #[]],ce (gF 61 rfl) (hd (Ag (bb #[DS h2]) (wit (bb #[JR o]) (Ax (dt (fz #[#[1]] (fz (dc (ar #[Dh c #[]] (ar rfl (ar #[es] rfl))) ex) rfl))) rfl))))]
     .obtain⟨y,g,s⟩:=l (c/91);refine#[.tup [.str (kk 2),x,y],#[_,[x,y],rfl,Nat.le_of_ble_eq_true rfl,λz hz=>?_,hw "" 2 #[]],ce (gF 61 rfl) (hd (Ag (bb #[DS h2]) (Ag (bb #[FJ o]) (Ax (dt (fz #[#[2]] (fz (dc (ar #[Dh c #[]] (ar rfl (ar #[es] rfl))) ex) (fz (dc (ar #[Dh c #[]] (ar rfl (ar #[es] rfl))) s) rfl)))) rfl))))];simp only[mem_cons,not_mem_nil,or_false]at hz;rcases hz with rfl|rfl
      .exact f
      .exact g
theorem dW{cf:CF}{U:Env}{ss:List S}{N:Env->Prop}{R:C->Prop}{i j:Nat}{ps:List P}(e:(den cf t).v U= .ok (.p p))(e2:(den cf u).v U= .ok (.p (.int j)))(b:j < ps.length)(h:WP (execs cf As ss (U.set i (some (.lst true (ps.set j p))))) N R)(a:A8 U i=some (.lst true ps)):WP (execs cf As (.Ce i false (Dt λc x k=>Dq c k x) [t,u]::ss) U) N R:=by
 refine NT (c:=.lst true ps) (ar e (ar e2 rfl)) ?_ h a rfl;show(((IK ps.length (j:Int)).map λk=>nw (ps.set k p)) <|> _)=_;unfold IK;rw[iP (by lia),iP (by lia),Int.toNat_natCast];rfl
theorem Le(hl:rs.length<=40):cN (k + 1) 64 [.lst false (rs.map Row.p)]= .ok (kL true kk):=by
 refine ce (gF 62 rfl) (Am (dl (fz rfl (fz rfl (fz rfl rfl)))) (R9 (λj U=>∃(f:Nat->Str) (y:Option C),U=[sL false (rs.map Row.p),some (kL true f),y]/\∀n m fs,.kind n m fs∈rs.take j->f m=kk m) rfl rfl #[λ_=>"",none,rfl,λn m fs h=>by cases h] ?_ ?_))
 .rintro j x d _ ⟨f,y,rfl,hf⟩
  rw[List.getElem?_map]at d;rintro⟨r,g,rfl⟩:oM d;refine#[_,rfl,?_];have tk:rs.take (j+1)=rs.take j++[r]:=by rw[take_add_one,g];rfl
  by_cases b:∃n m fs,r= .kind n m fs
  .obtain⟨n,m,fs,rfl⟩:=b;rintro⟨hm,rfl⟩:H.all n m fs (mem_of_getElem? g);refine wit (bb (d2 #[#[0]] rfl eqT)) (dW H (p:=.str (kk m)) (j:=m) (ps:=[.str (f 0),.str (f 1),.str (f 2)]) #[#[1]] #[#[2]] hm (Cn #[λi=>if i=m then kk m else f i,sP (Row.kind (kk m) m fs).p,?_,λl a fs' h=>?_]) rfl)
   .rcases(by lia:m=0\/m=1\/m=2)with rfl|rfl|rfl<;>rfl
   .show(if a=m then kk m else f a)=kk a
    by_cases e:a=m
    .rw[iP e,e]
    .rw[iN e];rw[tk]at h;rcases mZ h with h|h
     .exact hf l a fs' h
     .cases mE h;exact absurd rfl e
  .refine Ag ?_ #[f,_,rfl,λn m fs h=>?_]
   .cases r with
    |kind n m fs=>exact absurd #[n,m,fs,rfl] b
    |_=>exact bb (d2 #[#[0]] rfl Bc)
   .rw[tk]at h;rcases mZ h with h|h
    .exact hf n m fs h
    .exact absurd #[n,m,fs,(mE h).symm] b
 .rintro _ ⟨f,y,rfl,hf⟩
  rw[lM,take_length]at hf;have e:∀m,m < 3->f m=kk m:=λm h=>let⟨fs,hm⟩:=H.has m h;hf _ m fs hm
  exact MQ (c:=kL true f) (by show _=C.lst true [.str (f 0),.str (f 1),.str (f 2)];rw[e 0 #[],e 1 #[],e 2 #[]])
end
theorem C8{f:α->P}:∀{l:List α},(∀x∈l,BM (f x) (f x)=true)->BA (l.map f) (l.map f)=true
 |[],_=>rfl
 | a::l,h=>by
   show(BM (f a) (f a) && BA (l.map f) (l.map f))=true;rw[h a (.head _),C8 λx b=>h x (.tail _ b)];rfl
theorem C6{f:α->P}{d:Nat}:∀{l:List α},(∀x∈l,(f x).depth<=d)->P.Bi (l.map f)<=d
 |[],_=>Nat.zero_le _
 |a::l,h=>Nat.max_le.mpr #[h a (.head _),C6 λx b=>h x (.tail _ b)]
theorem BS{ps:List P}(h:BA ps ps=true):BM (.tup ps) (.tup ps)=true:=by
 show(decide ((P.tup ps).tag < 4) || BA ps ps)=true;rw[h,Bool.or_true]
theorem Ap{ps:List P}(h:BM p p=true)(h2:BA ps ps=true):BA (p::ps) (p::ps)=true:=by
 show(BM p p && BA ps ps)=true;rw[h,h2];rfl
theorem CC{ps:List P}{d:Nat}(h:P.Bi ps<=d):(P.tup ps).depth<=d+1:=Nat.succ_le_succ h
theorem AO{p:P}{ps:List P}{d:Nat}(h:p.depth<=d)(h2:P.Bi ps<=d):P.Bi (p::ps)<=d:=Nat.max_le.mpr #[h,h2]
theorem DI(k:Kd):BM k.p k.p=true/\k.p.depth<=2:=by
 cases k with
 |op i=>exact#[rfl,Nat.zero_le _]
 |mk n as=>exact#[BS (Ap rfl (C8 λl _=>by cases l<;>rfl)),CC (AO (Nat.zero_le _) (C6 λl _=>by cases l<;>exact Nat.le_of_ble_eq_true rfl))]
theorem BX(l:List Str):BM (.tup (l.map P.str)) (.tup (l.map P.str))=true/\(P.tup (l.map P.str)).depth<=5:=#[BS (C8 λ_ _=>rfl),CC (C6 λ_ _=>Nat.zero_le _)]
theorem DK(e:Ex):BM e.p e.p=true/\e.p.depth<=5:=by cases e<;>exact#[rfl,Nat.le_of_ble_eq_true rfl]
theorem JC(r:Row):BM r.p r.p=true/\r.p.depth<=6:=by
 cases r with
 |kind n m fs=>exact#[BS (Ap rfl (Ap rfl (Ap rfl (Ap (BS (C8 λf _=>BS (Ap rfl (Ap (BS (C8 λk _=>(DI k).1)) rfl)))) rfl)))),CC (AO (Nat.zero_le _) (AO (Nat.zero_le _) (AO (Nat.zero_le _) (AO (CC (C6 (d:=4) λf _=>CC (AO (Nat.zero_le _) (AO (CC (C6 λk _=>(DI k).2)) (Nat.zero_le _))))) (Nat.zero_le _)))))]
 |cls n l=>exact#[BS (Ap rfl (Ap rfl (Ap (BX l).1 rfl))),CC (AO (Nat.zero_le _) (AO (Nat.zero_le _) (AO (BX l).2 (Nat.zero_le _))))]
 |Ba n c ks r=>exact#[BS (Ap rfl (Ap rfl (Ap rfl (Ap (BS (C8 λk _=>(DI k).1)) (Ap (DI r).1 rfl))))),CC (AO (Nat.zero_le _) (AO (Nat.zero_le _) (AO (Nat.zero_le _) (AO (CC (C6 (d:=4) λk _=>Nat.le_trans (DI k).2 #[])) (AO (Nat.le_trans (DI r).2 #[]) (Nat.zero_le _))))))]
 |Af c q l=>exact#[BS (Ap rfl (Ap rfl (Ap rfl (Ap (BS (C8 λo _=>by cases o<;>rfl)) rfl)))),CC (AO (Nat.zero_le _) (AO (Nat.zero_le _) (AO (Nat.zero_le _) (AO (CC (C6 λo _=>by cases o<;>exact Nat.zero_le _)) (Nat.zero_le _)))))]
 |once d n e=>exact#[BS (Ap rfl (Ap rfl (Ap (BX _).1 (Ap (DK e).1 rfl)))),CC (AO (Nat.zero_le _) (AO (Nat.zero_le _) (AO (BX _).2 (AO (DK e).2 (Nat.zero_le _)))))]
 |CS c q d n e=>exact#[BS (Ap rfl (Ap rfl (Ap rfl (Ap rfl (Ap (BX _).1 (Ap (DK e).1 rfl)))))),CC (AO (Nat.zero_le _) (AO (Nat.zero_le _) (AO (Nat.zero_le _) (AO (Nat.zero_le _) (AO (BX _).2 (AO (DK e).2 (Nat.zero_le _)))))))]
 |ask e=>exact#[BS (Ap rfl (Ap (DK e).1 rfl)),CC (AO (Nat.zero_le _) (AO (DK e).2 (Nat.zero_le _)))]
theorem RP(rs:List Row){o o':Bool}:Bd (.lst o (rs.map Row.p)) (.lst o' (rs.map Row.p))=some (bC true):=by
 show((if BA (rs.map Row.p) (rs.map Row.p)=true/\P.Bi (rs.map Row.p)<=90 then some (decide (rs.map Row.p=rs.map Row.p))else none)).map bC=_;rw[iP #[C8 λr _=>(JC r).1,Nat.le_trans (C6 λr _=>(JC r).2) #[]],dZ rfl];rfl
theorem fw{f:Nat}{c:C}(e:(den cf t).v U= .ok x)(h:cf f [.obj true [],x]= .ok c)(a:c.Jd=true):(den cf (.make f [t])).v U= .ok c:=by
 show(BK cf [t] U).bind (λcs=>(cf f (.obj true []::cs)).bind λc=>if c.Jd then .ok c else .stuck)=_;rw[ar e rfl];show(cf f [.obj true [],x]).bind _=_;rw[h];exact iP a
theorem RQ{i j:Nat}{hi:Int}{x:P}(h:(Az (i:Nat) hi)[j]? =some x):(i:Int) + j < hi/\x= .int ((i + j:Nat):Int):=by
 unfold Az at h;rw[List.getElem?_map]at h;rintro⟨m,h1,rfl⟩:oM h;rintro⟨h2,a⟩:List.getElem?_eq_some_iff.mp h1;rw[List.getElem_range]at a;subst a;rw[length_range]at h2;exact#[by lia,by rw[Int.natCast_add]]
theorem WK{k:Nat}{ns:List Int}(hw:∃(rs:List Row) (rk:Str->Nat) (kk:Nat->Str),cN (k + 12) 62 [.lst false (ns.map P.int)]= .ok (.lst true (rs.map Row.p))/\Wf rk rs/\K3 rs kk):cN (k + 13) 68 [.lst false (ns.map P.int)]= .ok (bC true):=by
 rintro⟨rs,rk,kk,e1,W,H⟩:hw;rintro⟨tel,num,X,v⟩:SA (k:=k) W;have hl:=W.hl;refine ce (gF 66 rfl) (Am (BL rfl e1) (Am (BL rfl (Le H hl)) (Am (Qo Row.p rs Fx (λr=>.str (FV r)) rfl rfl (by lia) λr m=>#[_,rfl,?_,λq=>?_]) (Am (fw (d1 rfl rfl) v rfl) (EK (xs:=Az ((9:Nat):Int) (if(10:Int) < (if((ns.map P.int).length:Int) < 21 then((ns.map P.int).length:Int)else 21)then(if((ns.map P.int).length:Int) < 21 then((ns.map P.int).length:Int)else 21)else 10)) (λj U=>∃y5 y6 y7 y8,U=[sL false (ns.map P.int),sL true (rs.map Row.p),some (kL true kk),sL true ((rs.filter Fx).map λr=>.str (FV r)),some (lo true rs tel num),y5,y6,y7,y8]) (d2 rfl (d2 rfl (d2 rfl (d1 rfl (B0 _)) rfl) rfl) rfl) ?_ #[_,_,_,_,rfl] ?_ ?_)))))
 .cases r with
  |cls n l=>exact bb (d2 #[#[0]] rfl eqT)
  |_=>exact bb (d2 #[#[0]] rfl Bc)
 .cases r with
  |cls n l=>exact#[_,#[#[1]],rfl]
  |_=>cases q
 .refine iP #[by decide,?_];have:∀a:Int,0<=a->(if(10:Int) < (if a < 21 then a else 21)then(if a < 21 then a else 21)else 10).natAbs < 2 ^ 61:=λa h=>by split<;>(try split)<;>lia
  exact this _ (by lia)
 .rintro j x e _ ⟨y5,y6,y7,y8,rfl⟩
  rintro⟨f,rfl⟩:RQ e;rintro⟨c,_,u⟩:mixed (k:=k+11) (o:=false) ns (9+j) (by split at f<;>(try split at f)<;>lia);rintro⟨x,e,ex⟩:closed (k:=k+8) H 3 c;refine#[_,rfl,Am (dc (ar (ED rfl rfl u) (ar rfl (ar rfl rfl))) ex) (R9 (λi U=>∃y7 y8,U=[sL false (ns.map P.int),sL true (rs.map Row.p),some (kL true kk),sL false ((rs.filter Fx).map λr=>.str (FV r)),some (lo true rs tel num),sI ((9+j:Nat):Int),sP x,y7,y8]) rfl rfl #[_,_,rfl] ?_ ?_)]
  .rintro i z hz _ ⟨y7,y8,rfl⟩
   rw[List.getElem?_map]at hz;rintro⟨r,m,rfl⟩:oM hz;rintro⟨t,b,T⟩:LX (k:=k+5) (k2:=k+6) X W.g 4 true (FV r) x e;refine#[_,rfl,Am (dc (ar rfl (ar rfl (ar rfl rfl))) (ce (gF 4 rfl) (Ax (dc (ar rfl (ar (dl rfl) (ar rfl (ar rfl rfl)))) T.tr) rfl))) ?_]
   by_cases d:t= .AG
   .have s:=T.no d;subst d s;exact wit (bb #[rfl]) (Ag (H8 (bb (dc (ar rfl (ar rfl (ar rfl rfl))) T.lk))) (Cn #[_,_,rfl]))
   .exact Y9 (bb #[show Fw (.p t) (.p .AG)=some (bC false)from congrArg (λb=>some (bC b)) (dF d)]) (Ag (H8 (bb (dc (ar rfl (ar rfl (ar rfl (ar rfl rfl)))) (T.wk d)))) (Cn #[_,_,rfl]))
  .rintro _ ⟨y7,y8,rfl⟩
   exact Cn #[_,_,_,_,rfl]
 .rintro _ ⟨y5,y6,y7,y8,rfl⟩
  exact Ax (d2 (dm rfl rfl (Iv X)) rfl (RP rs)) rfl
theorem Qq{n d a:Nat}(h:a<=n):DT n d (some (a:Int))=a:=by
 show(if(a:Int) < 0 then((a:Int)+n).toNat else min (Int.toNat a) n)=a;rw[iN (by lia),Int.toNat_natCast];lia
theorem Tq(ps:List α)(a:Nat)(h:a<=ps.length):cut ps none (some (a:Int))=ps.take a:=by
 unfold cut;rw[Qq h,show DT ps.length 0 none=0 from rfl];simp
theorem To(ps:List α)(a:Nat)(h:a<=ps.length):cut ps (some (a:Int)) none=ps.drop a:=by
 unfold cut;rw[Qq h,show DT ps.length ps.length none=ps.length from rfl,take_of_length_le (by simp)]
theorem KC{l:List Nat}(h:l.length<=100):(sT l).length<=big:=show l.toArray.size<=100000 by simp;lia
theorem Uh(l:List Nat)(a:Nat)(h:a<=l.length)(b:l.length<=100):Ou (.p (.str (sT l))) (.p (.int a))=some (.p (.str (sT (l.take a)))):=by
 show(if((none:Option Int).all (0<=·) && (some (a:Int)).all (0<=·))/\(sT l).length<=big then some (C.p (.str ⟨(cut (sT l).cps.toList none (some (a:Int))).toArray⟩))else none)=_;rw[iP #[by simp,KC b],Tq _ a (by simpa using h)]
theorem Ui(l:List Nat)(a:Nat)(h:a<=l.length)(b:l.length<=100):M7 (.p (.str (sT l))) (.p (.int a))=some (.p (.str (sT (l.drop a)))):=by
 show(if((some (a:Int)).all (0<=·) && (none:Option Int).all (0<=·))/\(sT l).length<=big then some (C.p (.str ⟨(cut (sT l).cps.toList (some (a:Int)) none).toArray⟩))else none)=_;rw[iP #[by simp,KC b],To _ a (by simpa using h)]
theorem EH(a b:List Nat)(h:a.length + b.length<=100):Ad (.p (.str (sT a))) (.p (.str (sT b)))=some (.p (.str (sT (a++b)))):=by
 show((if(sT a).length+(sT b).length<=big then some (C.p (.str (sT a++sT b)))else none) <|> _)=_;rw[iP (show(sT a).length+(sT b).length<=big from(by simp;lia:a.toArray.size+b.toArray.size<=100000))];show some (C.p (.str ⟨a.toArray++b.toArray⟩))=_;simp
theorem Uz(l:List Nat)(h:l.length<=100):AD (.p (.str (sT l)))=some (.p (.int l.length)):=len_str (by simp;lia)
def Je:Str:="abcdefghijklmnopqrstuvwxyz"
def U3:Str:="ABCDEFGHIJKLMNOPQRSTUVWXYZ"
theorem QL:∀i:Fin 26,(signs Je)[i.val]? =some (sign (97+i.val))/\(signs U3)[i.val]? =some (sign (65+i.val)):=by decide +kernel
theorem Ef{i:Nat}(h:i < 26):Ae (.p (.str Je)) (.p (.int i))=some (.p (.str (sT [97+i]))):=AA (show(if Je.length<=big then some (signs Je)else none)=_ from iP #[]) (QL #[i,h]).1
theorem M4{i:Nat}(h:i < 26):Ae (.p (.str U3)) (.p (.int i))=some (.p (.str (sT [65+i]))):=AA (show(if U3.length<=big then some (signs U3)else none)=_ from iP #[]) (QL #[i,h]).2
theorem Al(c:Int){m:Nat}(h:0 < m):∃o:Nat,o < m/\c % (m:Int)=o:=by
 have h1:=Int.emod_nonneg c (b:=(m:Int)) (by lia);have h2:=Int.emod_lt_of_pos c (b:=(m:Int)) (by lia);exact#[(c%(m:Int)).toNat,by lia,by lia]
theorem JD{n:Nat}(h:n < 1000):DQ (.p (.int n))=some ((List.range n).map λi=>.int (i:Nat)):=by
 rw[Cd h];unfold Az;rw[show((n:Int)-0).toNat=n by lia];exact congrArg some (map_congr_left λi _=>by simp)
theorem Km{l:List Nat}{i:Nat}(hl:l.all small=true)(hi:i < 26):(l++[97 + i]).all small=true:=by
 rw[all_append,hl];simp[small];lia
def E3(l r:List Nat)(j:Nat):Str:=sT (l++(97+j)::r)
theorem WA{l r:List Nat}{i j:Nat}(h:E3 l r i=E3 l r j):i=j:=by
 have h1:=congrArg Array.toList (congrArg Str.cps h);simpa[E3]using h1
theorem Su{l r:List Nat}{j:Nat}(hl:l.all small=true)(a:r.all small=true)(b:l.length + r.length<=7)(c:j < 26):Ah (E3 l r j)=true:=by
 show(decide (1<=(l++(97+j)::r).length) && decide ((l++(97+j)::r).length<=8) && (l++(97+j)::r).all small)=true;rw[all_append,all_cons,hl,a,show small (97+j)=true from by simp[small];lia];simp;lia
def Hh:List Str:=["whole","truth","plus","minus","under"]
theorem Kp{l:List Nat}(h:l.all small=true)(a:Nat):(l.take a).all small=true/\(l.drop a).all small=true:=by
 rw[all_eq_true]at h;exact#[all_eq_true.mpr λx b=>h x (mem_of_mem_take b),all_eq_true.mpr λx b=>h x (List.mem_of_mem_drop b)]
theorem KZ{f:Nat->α}(h:∀i j,f i=f j->i=j)(n s:Nat):((List.range' s n).map f).Nodup:=pairwise_map.mpr (List.Pairwise.imp (λa e=>a (h _ _ e)) (List.nodup_range' ..))
theorem TR:∀o:Fin 18,cut Je.cps.toList (some ((o.val:Nat):Int)) (some (((o.val+9:Nat)):Int))=List.range' (97+o.val) 9:=by decide +kernel
section
variable{k:Nat}
theorem names(c:Int):∃ws:List Str,(ws.length=9/\(∀x∈ws,Ah x=true)/\ws.Nodup/\∀x∈Hh,x∉ws)/\cN (k + 1) 51 [.p (.int c),.p (.int ((9:Nat):Int))]= .ok (.lst true (ws.map P.str)):=by
 rintro⟨o,r,v⟩:Al c (m:=18) #[];rintro⟨n,f,w⟩:Al (c/27) (m:=8) #[]
 obtain ⟨_, e,ws,rfl,h⟩:=cw (k:=k) (args:=[.p (.int c),.p (.int ((9:Nat):Int))]) (R:=λz=>∃ws:List Str,z= .lst true (ws.map P.str)/\ws.length=9/\(∀x∈ws,Ah x=true)/\ws.Nodup/\∀x∈Hh,x∉ws) (gF 49 rfl) (by
  refine Am rfl (Am (d2 rfl #[rfl] (tI (D7 c (j:=18) #[]) v)) (Am #[Dh c #[]] (Am rfl (EK (λj U=>∃(l:List Nat) (y:Option C),U=[sI (c/27),sI ((9:Nat):Int),sS Je,sI o,sS (sT l),y,none,none,none]/\l.all small=true/\l.length=j) #[tI (D7 (c/27) (j:=8) #[]) w] (Cd (by lia)) #[[],none,rfl,rfl,rfl] ?_ ?_))))
  .rintro j x b _ ⟨l,y,rfl,hl,g⟩
   rintro⟨t,rfl⟩:BH b;rintro⟨i,hi,d⟩:Al (c/27*((j:Int)+3)/7) (m:=26) #[];exact#[_,rfl,Am (d2 rfl (d2 rfl (d2 (d2 (d2 rfl #[AK (j:Int) 3] (HC (i:=c/27) (j:=(j:Int)+3) (.inr #[by lia,by lia]))) rfl (Dh _ #[])) rfl (tI (D7 _ (j:=26) #[]) d)) (Ef hi)) (EH l [97+i] (by simp;lia))) #[l++[97+i],_,rfl,Km hl hi,by simp[g]]]
  .rintro _ ⟨l,y,rfl,hl,g⟩
   rw[Bj]at g;rintro⟨a,E,A⟩:Al (c/27/8) (m:=l.length+1) (by lia);rintro⟨t1,t2⟩:Kp hl a;have l1:(l.take a).length=a:=by rw[length_take];lia
   have l2:(l.drop a).length=l.length-a:=length_drop ..;refine Am (d2 #[Dh _ #[]] (d2 (d1 rfl (Uz l (by lia))) rfl (AK (l.length:Int) 1)) (tI (D7 _ (by lia)) A)) (Am (dl rfl) (R9 (c:=.p (.int ((9:Nat):Int))) (λj U=>∃y,U=[sI (c/27),sI ((9:Nat):Int),sS Je,sI o,sS (sT l),y,sI a,sL true (((List.range' o j).map (E3 (l.take a) (l.drop a))).map P.str),none]) rfl (Cd #[]) #[_,rfl] ?_ ?_))
   .rintro j x b _ ⟨y,rfl⟩
    rintro⟨u,rfl⟩:BH b;refine#[_,rfl,Jj (ps:=((List.range' o j).map (E3 (l.take a) (l.drop a))).map P.str) (p:=.str (E3 (l.take a) (l.drop a) (o+j))) (d2 (d2 #[Uh l a (by lia) (by lia)] (d2 rfl #[show Ad (.p (.int o)) (.p (.int j))=some (.p (.int ((o+j:Nat):Int)))from by rw[AK,Int.natCast_add]] (Ef (by lia))) (EH _ _ (by simp;lia))) #[Ui l a (by lia) (by lia)] ((EH _ _ (by simp;lia)).trans (by rw[append_assoc];rfl))) (by simp;lia) #[some (.p (.int j)),?_]];rw[List.range'_concat,map_append,map_append,Nat.one_mul];rfl
   .rintro _ ⟨y,rfl⟩
    rw[Bj]
    have ok:∀x∈(List.range' o 9).map (E3 (l.take a) (l.drop a)),Ah x=true:=λx b=>by
     rintro⟨i,hi,rfl⟩:mem_map.mp b;rw[mem_range'_1]at hi;exact Su t1 t2 (by lia) (by lia)
    refine EK (xs:=Hh.map P.str) (λj U=>(∃z,U=[sI (c/27),sI ((9:Nat):Int),sS Je,sI o,sS (sT l),y,sI a,sL true (((List.range' o 9).map (E3 (l.take a) (l.drop a))).map P.str),z])/\∀x∈Hh.take j,x∉(List.range' o 9).map (E3 (l.take a) (l.drop a))) (dl (fz rfl (fz rfl (fz rfl (fz rfl (fz rfl rfl)))))) rfl #[#[none,rfl],λx b=>by cases b] ?_ ?_
    .rintro j x b _ ⟨⟨z,rfl⟩,f⟩
     rw[List.getElem?_map]at b;rintro⟨s,hs,rfl⟩:oM b;refine#[_,rfl,?_];have d:Nu (.p (.str s)) (.lst false (((List.range' o 9).map (E3 (l.take a) (l.drop a))).map P.str))=some (bC (((List.range' o 9).map (E3 (l.take a) (l.drop a))).contains s)):=by show((IP _ _).map bC)=_;rw[Q1];rfl
     by_cases hm:s∈(List.range' o 9).map (E3 (l.take a) (l.drop a))
     .rw[show((List.range' o 9).map (E3 (l.take a) (l.drop a))).contains s=true from by simpa using hm]at d
      have D:Vw (.p (.str Je)) (.p (.int o)) (.p (.int ((o + 9:Nat):Int)))=some (.p (.str (sT (List.range' (97 + o) 9)))):=by
       show(if((some (o:Int)).all (0<=·) && (some (((o+9:Nat)):Int)).all (0<=·))/\Je.length<=big then some (C.p (.str ⟨(cut Je.cps.toList (some (o:Int)) (some (((o+9:Nat)):Int))).toArray⟩))else none)=_;rw[iP #[by simp;lia,by decide],TR #[o,r]]
      have B:CP (.p (.str (sT (List.range' (97 + o) 9))))=some (nw ((List.range' (97 + o) 9).map sign)):=by
       show(((if(sT (List.range' (97+o) 9)).length<=big then some (signs (sT (List.range' (97+o) 9)))else none).bind λps=>if((sT (List.range' (97+o) 9)).cps.all λk=>decide (k < 128))=true then some (nw ps)else none) <|> _)=_;rw[iP (KC (by simp)),Option.bind_some,iP]
       .rfl
       .rw[<-Array.all_toList,all_eq_true];intro x b;have:=mem_range'_1.mp (by simpa using b);exact dZ (by lia)
      refine wit (bb #[d]) (Ax (d1 (d3 rfl rfl #[show Ad (.p (.int o)) (.p (.int ((9:Nat):Int)))=some (.p (.int ((o+9:Nat):Int)))from by rw[AK,Int.natCast_add]] D) B) #[(List.range' (97+o) 9).map λc=>sT [c],by rw[map_map];rfl,by simp,λx b=>?_,KZ (λi j e=>by simpa using congrArg Array.toList (congrArg Str.cps e)) 9 _,λx b q=>?_])
      .obtain⟨i,hi,rfl⟩:=mem_map.mp b;rw[mem_range'_1]at hi;show(decide (1<=1) && decide (1<=8) && (small i && true))=true;simp[small];lia
      .obtain⟨i,hi,rfl⟩:=mem_map.mp q;have:∀y∈Hh,4<=y.cps.toList.length:=by decide +kernel
       exact absurd (this _ b) (by simp)
     .rw[show((List.range' o 9).map (E3 (l.take a) (l.drop a))).contains s=false from by simpa using hm]at d;refine Ag (bb #[d]) #[#[_,rfl],λx b=>?_];rw[take_add_one,hs,Option.toList_some]at b;rcases mZ b with b|b
      .exact f x b
      .rw[mE b];exact hm
    .rintro _ ⟨⟨z,rfl⟩,f⟩
     exact MQ #[_,rfl,by simp,ok,KZ (λi j e=>WA e) 9 o,f])
 exact#[ws,h,e]
end
def Xz(fs:List Str):Prop:=fs.length=6/\(∀x∈fs,DV x=true)/\fs.Nodup
theorem IT{j:Nat}{l:List Nat}(h:l.all small=true)(hl:l.length<=7)(a:j < 26):DV (sT ((65 + j)::l))=true:=by
 show(great (65+j) && decide (l.length<=7) && l.all small)=true;rw[h,dZ hl,show great (65+j)=true from by simp[great];lia];rfl
theorem KD{a b:List Nat}(h:sT a=sT b):a=b:=by simpa using congrArg Array.toList (congrArg Str.cps h)
theorem V3:Ga (.p (.str Je))=some (.p (.str U3)):=by
 show(if Je="abcdefghijklmnopqrstuvwxyz" then some (C.p (.str "ABCDEFGHIJKLMNOPQRSTUVWXYZ"))else none)=_;rw[iP (show Je="abcdefghijklmnopqrstuvwxyz" from rfl)];rfl
theorem Qe{o:Nat}{f:Nat->Str}(h:∀i j,f i=f j->i=j)(hf:∀i,o<=i->i < o + 6->DV (f i)=true):Xz ((List.range' o 6).map f):=⟨by simp,λx a=>by
 rintro⟨i,hi,rfl⟩:mem_map.mp a;rw[mem_range'_1]at hi
 exact hf i hi.1 hi.2,KZ h 6 o⟩
section
variable{k:Nat}
theorem Xu(o j:Nat):Ad (.p (.int o)) (.p (.int j))=some (.p (.int ((o+j:Nat):Int))):=by rw[AK,Int.natCast_add]
theorem YM(o:Nat)(f:Nat->P):((List.range 6).map λj=>f (o+j))=(List.range' o 6).map f:=by rw[List.range'_eq_map_range,map_map];rfl
theorem Ls(c:Int):∃fs:List Str,(Xz fs/\("No":Str)∉fs/\("Yes":Str)∉fs)/\cN (k + 1) 52 [.p (.int c),.p (.int ((6:Nat):Int))]= .ok (.lst true (fs.map P.str)):=by
 rintro⟨o,G,D⟩:Al c (m:=21) #[];rintro⟨n,H,E⟩:Al (c/27) (m:=7) #[]
 have tail:∀{fs:List Str} {b y8 y9 y6:Option C},Xz fs->WP (k<<<(dP.drop 7)>>>[sI c,sI ((6:Nat):Int),sS Je,sS U3,sI o,b,y6,sL true (fs.map P.str),y8,y9]) (λ_=>False) (λz=>∃fs:List Str,z= .lst true (fs.map P.str)/\Xz fs/\("No":Str)∉fs/\("Yes":Str)∉fs):=λ{fs b y8 y9 y6} hf=>by
  have d:∀s:Str,Nu (.p (.str s)) (.lst false (fs.map P.str))=some (bC (fs.contains s)):=λs=>by show((IP _ _).map bC)=_;rw[Q1];rfl
  have back:∀{N:Env->Prop},WP (k<<<[(.ret (.comp (.nm 1) DQ {1} [] (.A1 Ad {"X"} (.A1 Ae {3} (.A1 Ad {2} {1}))) [none,none,some 4,some 2]))]>>>[sI c,sI ((6:Nat):Int),sS Je,sS U3,sI o,b,y6,sL true (fs.map P.str),y8,y9]) N (λz=>∃fs:List Str,z= .lst true (fs.map P.str)/\Xz fs/\("No":Str)∉fs/\("Yes":Str)∉fs):=by
   refine Ax (Qo (λi:Nat=>.int i) (List.range 6) (λ_=>true) (λj=>.str (sT [88,97+(o+j)])) rfl (JD #[]) (by simp) λj f=>#[_,rfl,rfl,λ_=>#[_,d2 rfl (d2 rfl #[Xu o j] (Ef (by rw[mem_range]at f;lia))) (EH [88] [97+(o+j)] (by simp)),rfl]]) #[(List.range' o 6).map λj=>sT [88,97+j],?_,Qe (λi j e=>by have:=KD e;simp at this;exact this) λi _ h=>IT (j:=23) (l:=[97+i]) (by simp[small];lia) (by simp) #[],λh=>?_,λh=>?_]
   .rw[filter_tt,map_map,YM o (λj=>.str (sT [88,97+j]))];rfl
   .obtain⟨i,_,e⟩:=mem_map.mp h;exact absurd (congrArg (λs:Str=>s.cps.toList.head?) e) (by show ¬(some 88=some 78);decide)
   .obtain⟨i,_,e⟩:=mem_map.mp h;exact absurd (congrArg (λs:Str=>s.cps.toList.head?) e) (by show ¬(some 88=some 89);decide)
  by_cases h1:("No":Str)∈fs
  .exact wit (QA (bb #[(d _).trans (by rw[show fs.contains ("No":Str)=true from by simpa using h1])])) back
  .by_cases h2:("Yes":Str)∈fs
   .exact wit (CV (bb #[(d _).trans (by rw[show fs.contains ("No":Str)=false from by simpa using h1])]) (bb #[(d _).trans (by rw[show fs.contains ("Yes":Str)=true from by simpa using h2])])) back
   .exact Ag (CV (bb #[(d _).trans (by rw[show fs.contains ("No":Str)=false from by simpa using h1])]) (bb #[(d _).trans (by rw[show fs.contains ("Yes":Str)=false from by simpa using h2])])) (MQ #[fs,rfl,hf,h1,h2])
 obtain ⟨_,e,fs,rfl,h⟩:=cw (k:=k) (args:=[.p (.int c),.p (.int ((6:Nat):Int))]) (R:=λz=>∃fs:List Str,z= .lst true (fs.map P.str)/\Xz fs/\("No":Str)∉fs/\("Yes":Str)∉fs) (gF 50 rfl) (by
  refine Am rfl (Am (d1 rfl V3) (Am (d2 rfl #[rfl] (tI (D7 c (j:=21) #[]) D)) (Am rfl (EK (λj U=>∃(l:List Nat) (y:Option C),U=[sI c,sI ((6:Nat):Int),sS Je,sS U3,sI o,sS (sT l),y,none,none,none]/\l.all small=true/\l.length=j) (d2 #[Dh c #[]] rfl (tI (D7 (c/27) (j:=7) #[]) E)) (Cd (by lia)) #[[],none,rfl,rfl,rfl] ?_ ?_))))
  .rintro j x g _ ⟨l,y,rfl,hl,f⟩
   rintro⟨v,rfl⟩:BH g;rintro⟨i,hi,d⟩:Al (c*((j:Int)+5)/11) (m:=26) #[];exact#[_,rfl,Am (d2 rfl (d2 rfl (d2 (d2 (d2 rfl #[AK (j:Int) 5] (HC (i:=c) (j:=(j:Int)+5) (.inr #[by lia,by lia]))) rfl (Dh _ #[])) rfl (tI (D7 _ (j:=26) #[]) d)) (Ef hi)) (EH l [97+i] (by simp;lia))) #[l++[97+i],_,rfl,Km hl hi,by simp[f]]]
  .rintro _ ⟨l,y,rfl,hl,f⟩
   rw[Bj]at f;refine Am (Qo (λi:Nat=>.int i) (List.range 6) (λ_=>true) (λj=>.str (sT ((65+(o+j))::l))) rfl (JD #[]) (by simp) λj q=>#[_,rfl,rfl,λ_=>#[_,d2 (d2 rfl #[Xu o j] (M4 (by rw[mem_range]at q;lia))) rfl (EH [65+(o+j)] l (by simp;lia)),rfl]]) ?_;rw[filter_tt,YM o (λj=>.str (sT ((65+j)::l))),show((List.range' o 6).map λj=>P.str (sT ((65+j)::l)))=((List.range' o 6).map λj=>sT ((65+j)::l)).map P.str from by rw[map_map];rfl];rintro⟨u,A,t⟩:Al (c/200) (m:=2) #[];have hm:=tI (D7 (c/200) (j:=2) #[]) t
   by_cases B:u=1
   .subst B;rintro⟨a,I,F⟩:Al (c/400) (m:=l.length+1) (by lia);rintro⟨t1,t2⟩:Kp hl a;have l1:(l.take a).length=a:=by rw[length_take];lia
    have l2:(l.drop a).length=l.length-a:=length_drop ..;refine wit (bb (d2 (d2 #[Dh c #[]] rfl hm) rfl (K6 rfl))) (Am (d2 #[Dh _ #[]] (d2 (d1 rfl (Uz l (by lia))) rfl (AK (l.length:Int) 1)) (tI (D7 _ (by lia)) F)) (Am (dl rfl) (R9 (c:=.p (.int ((6:Nat):Int))) (λj U=>∃y9 y6,U=[sI c,sI ((6:Nat):Int),sS Je,sS U3,sI o,sS (sT l),y6,sL true (((List.range' o j).map λj=>sT ((65+o)::(l.take a++(97+j)::l.drop a))).map P.str),sI a,y9]) rfl (Cd #[]) #[_,_,rfl] ?_ ?_)))
    .rintro j x g _ ⟨y9,y6,rfl⟩
     rintro⟨w,rfl⟩:BH g;refine#[_,rfl,Am (d2 #[M4 (by lia)] #[Uh l a (by lia) (by lia)] (EH [65+o] (l.take a) (by simp;lia))) (Jj (ps:=((List.range' o j).map λj=>sT ((65+o)::(l.take a++(97+j)::l.drop a))).map P.str) (p:=.str (sT ((65+o)::(l.take a++(97+(o+j))::l.drop a)))) (d2 (d2 rfl (d2 rfl #[Xu o j] (Ef (by lia))) (EH _ _ (by simp;lia))) #[Ui l a (by lia) (by lia)] ((EH _ _ (by simp;lia)).trans (by simp))) (by simp;lia) #[some (.p (.str (sT ([65+o]++l.take a)))),sI j,?_])];rw[List.range'_concat,map_append,map_append,Nat.one_mul];rfl
    .rintro _ ⟨y9,y6,rfl⟩
     rw[Bj];refine Cn (Hn (λ_ h=>h.elim) (λz h=>h) (tail (Qe (λi j e=>by have:=KD e;simp at this;exact this) λi h1 h2=>IT (all_append▸?_) (by simp;lia) (by lia))));rw[t1,all_cons,t2,show small (97+i)=true from by simp[small];lia];rfl
   .have r:u=0:=by lia
    subst r
    exact Ag (bb (d2 (d2 #[Dh c #[]] rfl hm) rfl (DS #[]))) (Hn (λ_ h=>h.elim) (λz h=>h) (tail (Qe (λi j e=>by have:=KD e;simp at this;exact this) λi h1 h2=>IT hl (by lia) (by lia)))))
 exact#[fs,h,e]
end
def Lg(kk:Nat->Str)(m:Nat):Lf->Prop
 |.nm n=>n="whole"\/n="truth"\/n=kk 0
 |.op i=>i < m
def Kg(kk:Nat->Str)(m:Nat)(x:Kd):Prop:=(∃l,Lg kk m l/\x=l.k)\/(∃l,Lg kk m l/\x= .mk (kk 1) [l])\/∃l l',Lg kk m l/\Lg kk m l'/\x= .mk (kk 2) [l,l']
def QV(kk:Nat->Str)(m:Nat):List Lf:=[.nm "whole",.nm "truth",.nm (kk 0)]++(List.range m).map .op++(List.range m).map .op
variable{kk:Nat->Str}
theorem Zp{m:Nat}{l:Lf}(h:l∈QV kk m):Lg kk m l:=by
 have op:∀{l},l∈(List.range m).map Lf.op->Lg kk m l:=λh=>by rintro⟨i,hi,rfl⟩:mem_map.mp h;exact mem_range.mp hi
 rcases mZ h with h|h
 .rcases mZ h with h|h
  .simp only[mem_cons,not_mem_nil,or_false]at h;rcases h with rfl|rfl|rfl
   .exact .inl rfl
   .exact .inr (.inl rfl)
   .exact .inr (.inr rfl)
  .exact op h
 .exact op h
theorem II(kk:Nat->Str)(m:Nat):(QV kk m).length=3+2*m:=by simp[QV];lia
theorem JS{m:Nat}(h:m<=10):Ep (.p (.int m))=some (.lst true (((List.range m).map Lf.op).map Lf.p)):=by
 show((DQ (.p (.int m))).bind λps=>if ps.length<=big then some (nw ps)else none)=_;rw[JD (by lia),Option.bind_some,iP (show _<=big from(by simp;lia:_<=100000)),map_map];rfl
theorem Er{m:Nat}(a:∀i,i < 3->Ah (kk i)=true){l:Lf}(h:Lg kk m l):l.ok:=by
 cases l with
 |nm n=>
   rcases h with rfl|rfl|rfl
   .show Ah _=true;decide +kernel
   .show Ah _=true;decide +kernel
   .exact a 0 #[]
 |op i=>trivial
theorem PL{m:Nat}(b:∀i,i < 3->Ah (kk i)=true){x:Kd}(h:Kg kk m x):x.lt m:=by
 have lo:∀{l:Lf},Lg kk m l->∀i,Kd.op i=l.k->i < m:=λ{l} h i e=>by cases l with|nm n=>cases e|op j=>cases e;exact h
 rcases h with⟨l,h,rfl⟩|⟨l,h,rfl⟩|⟨l,d,h,h',rfl⟩
 .refine#[Uy (Er b h),λi hi=>?_];rw[SE]at hi;exact lo h i (mE hi)
 .refine#[#[b 1 #[],by simp,λa c=>by rw[mE c];exact Er b h],λi hi=>?_];simp only[Kd.w,Kd.parts,map_cons,map_nil,mem_cons,not_mem_nil,or_false]at hi;rcases hi with hi|hi
  .cases hi
  .exact lo h i hi
 .refine#[#[b 2 #[],by simp,λa c=>?_],λi hi=>?_]
  .simp only[mem_cons,not_mem_nil,or_false]at c;rcases c with rfl|rfl
   .exact Er b h
   .exact Er b h'
  .simp only[Kd.w,Kd.parts,map_cons,map_nil,mem_cons,not_mem_nil,or_false]at hi;rcases hi with hi|hi|hi
   .cases hi
   .exact lo h i hi
   .exact lo h' i hi
theorem UC{m:Nat}(H:∀i,i < 3->∃fs,.kind (kk i) i fs∈rs){x:Kd}(h:Kg kk m x):aD rs x:=by
 have w:∀i,i < 3->∃fs,.kind (kk i) i fs∈own++rs:=λi hi=>(H i hi).imp λfs h=>mR h
 have lo:∀{l:Lf},Lg kk m l->∀n as,Kd.mk n as=l.k->∃fs,.kind n as.length fs∈own++rs:=λ{l} h n as e=>by
  cases l with
  |op j=>cases e
  |nm q=>
    cases e;rcases h with rfl|rfl|rfl
    .exact#[[],by simp[own]]
    .exact#[_,mL (mem_cons_of_mem _ mS)]
    .exact w 0 #[]
 intro n as hi;rcases h with⟨l,h,rfl⟩|⟨l,h,rfl⟩|⟨l,a,h,h',rfl⟩
 .rw[SE]at hi;exact lo h n as (mE hi)
 .simp only[Kd.w,Kd.parts,map_cons,map_nil,mem_cons,not_mem_nil,or_false]at hi;rcases hi with hi|hi
  .cases hi;exact w 1 #[]
  .exact lo h n as hi
 .simp only[Kd.w,Kd.parts,map_cons,map_nil,mem_cons,not_mem_nil,or_false]at hi;rcases hi with hi|hi|hi
  .cases hi;exact w 2 #[]
  .exact lo h n as hi
  .exact lo h' n as hi
section
variable {k:Nat}{kk:Nat->Str}{m:Nat}(hm:m<=2){o:Bool}
include hm
theorem Mn{R:C->Prop}{N:Env->Prop}(c d:Int)(h:∀w:Nat,w < 3 + 2 * m + 2->WP (k<<<(cL.drop 2)>>>[sI c,some (kL o kk),sI m,sI d,sL true ((QV kk m).map Lf.p),sI w,none]) N R):WP (k<<<cL>>>[sI c,some (kL o kk),sI m,sI d,none,none,none]) N R:=by
 rintro⟨w,hw,a⟩:Al c (m:=3+2*m+2) (by lia);have e1:Ad (.lst true [.tup [.str "whole"],.tup [.str "truth"],.tup [.str (kk 0)]]) (.lst true (((List.range m).map Lf.op).map Lf.p))=some (.lst true (([Lf.nm "whole",.nm "truth",.nm (kk 0)]++(List.range m).map Lf.op).map Lf.p)):=(add_l (by simp;lia)).trans (by rw[map_append];rfl);have e2:Ad (.lst true (([Lf.nm "whole",.nm "truth",.nm (kk 0)]++(List.range m).map Lf.op).map Lf.p)) (.lst true (((List.range m).map Lf.op).map Lf.p))=some (.lst true ((QV kk m).map Lf.p)):=(add_l (by simp;lia)).trans (by rw[<-map_append];rfl);refine Am (d2 (d2 (dl (fz (dt (fz rfl rfl)) (fz (dt (fz rfl rfl)) (fz (dt (fz #[#[0]] rfl)) rfl)))) (d1 rfl (JS (by lia))) e1) (d1 rfl (JS (by lia))) e2) (Am (d2 rfl (d2 (d1 rfl (B0 _)) rfl (AK _ 2)) (tI (D7 c (by simp;lia)) (?_:_=(w:Int)))) (h w hw));rw[lM,II,<-a]
 congr 1
theorem JU{R:C->Prop}{N:Env->Prop}{w:Nat}(a:∀l,Lg kk m l->R (.p l.p)):WP (k<<<[(.ret (.A1 Ae {4} (.A1 (Aw Du) {5} (.Ak AD {4}))))]>>>[sI c,some (kL o kk),sI m,sI d,sL true ((QV kk m).map Lf.p),sI w,none]) N R:=by
 have hl:=II kk m;rintro⟨i,hi,b⟩:Al (w:Int) (m:=(QV kk m).length) (by lia);refine Ax (d2 rfl (d2 rfl (d1 rfl (B0 _)) (tI (D7 _ (by simp;lia)) (by rw[lM];exact b))) (AA rfl (by rw[List.getElem?_map,List.getElem?_eq_getElem hi];rfl))) (a _ (Zp (getElem_mem hi)))
theorem UB(c d:Int)(hd:d=0):∃l,Lg kk m l/\cN (k + 1) 53 [.p (.int c),kL o kk,.p (.int m),.p (.int d)]= .ok (.p l.p):=by
 rintro⟨_,e,l,h,rfl⟩:cw (k:=k) (args:=[.p (.int c),kL o kk,.p (.int m),.p (.int d)]) (R:=λz=>∃l,Lg kk m l/\z= .p l.p) (gF 51 rfl) (Mn hm c d λw hw=>by
  refine wit ?_ (JU hm λl hl=>#[l,hl,rfl])
  by_cases h:w < (QV kk m).length
  .exact QA (bb (d2 rfl (d1 rfl (B0 _)) (JR (by simp;exact_mod_cast h))))
  .exact CV (bb (d2 rfl (d1 rfl (B0 _)) (FJ (by simp;lia)))) (bb #[K6 hd]))
 exact#[l,h,e]
theorem PK(c d:Int)(hd:d=1):∃x,Kg kk m x/\cN (k + 2) 53 [.p (.int c),kL o kk,.p (.int m),.p (.int d)]= .ok (.p x.p):=by
 rintro⟨_,e,l,h,rfl⟩:cw (k:=k + 1) (args:=[.p (.int c),kL o kk,.p (.int m),.p (.int d)]) (R:=λz=>∃x,Kg kk m x/\z= .p x.p) (gF 51 rfl) (Mn hm c d λw hw=>by
  have g:=II kk m;have nd:d≠0:=by lia
  by_cases h:w < (QV kk m).length
  .exact wit (QA (bb (d2 rfl (d1 rfl (B0 _)) (JR (by simp;exact_mod_cast h))))) (JU hm λl hl=>#[l.k,.inl #[l,hl,rfl],by rw[Zq]])
  .refine Ag (CV (bb (d2 rfl (d1 rfl (B0 _)) (FJ (by simp;lia)))) (bb #[DS nd])) ?_;rintro⟨l,hl,el⟩:UB (k:=k) (kk:=kk) (o:=false) hm (c/13) (d-1) (by lia)
   by_cases h2:w=(QV kk m).length
   .exact wit (bb (d2 rfl (d1 rfl (B0 _)) (K6 (by simp;exact_mod_cast h2)))) (Ax (dt (fz #[#[1]] (fz (dc (ar #[Dh c #[]] (ar rfl (ar rfl (ar #[rfl] rfl)))) el) rfl))) #[.mk (kk 1) [l],.inr (.inl #[l,hl,rfl]),rfl])
   .obtain⟨f,a,b⟩:=UB (k:=k) (kk:=kk) (o:=false) hm (c/177) 0 rfl
    exact Ag (bb (d2 rfl (d1 rfl (B0 _)) (DS (by simp;lia)))) (Am (dc (ar #[Dh c #[]] (ar rfl (ar rfl (ar #[rfl] rfl)))) el) (Ax (dt (fz #[#[2]] (fz rfl (fz (dc (ar #[Dh c #[]] (ar rfl (ar rfl (ar rfl rfl)))) b) rfl)))) #[.mk (kk 2) [l,f],.inr (.inr #[l,f,hl,a,rfl]),rfl])))
 exact#[l,h,e]
end
section
variable{k:Nat}
def Fj:Str:="plus"
theorem RY:Ah Fj=true:=by decide +kernel
theorem expr{o o':Bool}(c:Int){ps fs ds:List Str}(v:∀x∈ps,Ah x=true)(u:ps.length<=3)(hf:∀x∈fs,DV x=true)(h1:1<=fs.length)(B:fs.length<=100)(hd:∀x∈ds,Ah x=true)(D:ds.length<=100):∃e:Ex,e.ok/\cN (k + 1) 54 [.p (.int c),.p (.tup (ps.map P.str)),.lst o (fs.map P.str),.lst o' (ds.map P.str)]= .ok (.p e.p):=by
 obtain⟨d,h⟩:∃E:Int,E=10 ^ 9:=#[_,rfl];obtain⟨f,q⟩:∃E:Int,E=10 ^ 8:=#[_,rfl];have r:Aw JH (.p (.int 10)) (.p (.int 9))=some (.p (.int d)):=by rw[h];rfl
 have t:Aw JH (.p (.int 10)) (.p (.int 8))=some (.p (.int f)):=by rw[q];rfl
 rintro⟨i,hi,G⟩:Al (c/5) (m:=fs.length) (by lia);rintro⟨j,A,F⟩:Al (c/5) (m:=ds.length+1) (by lia)
 have n:∀x∈ds++[Fj],Ah x=true:=λx a=>by
  rcases mZ a with a|a
  .exact hd x a
  .rw[mE a];exact RY
 have H:Ae (.lst false (fs.map P.str)) (.p (.int i))=some (.p (.str fs[i])):=AA rfl (by rw[List.getElem?_map,List.getElem?_eq_getElem hi];rfl);have g:j < (ds++[Fj]).length:=by simp;exact A
 have J:Ad (.lst false (ds.map P.str)) (.lst true [.str "plus"])=some (.lst true ((ds++[Fj]).map P.str)):=(add_l (by simp<;>lia)).trans (by rw[map_append];rfl);have I:Ae (.lst true ((ds++[Fj]).map P.str)) (.p (.int j))=some (.p (.str (ds++[Fj])[j])):=AA rfl (by rw[List.getElem?_map,List.getElem?_eq_getElem g];rfl)
 rintro⟨_,e,x,a,rfl⟩:cw (k:=k) (args:=[.p (.int c),.p (.tup (ps.map P.str)),.lst o (fs.map P.str),.lst o' (ds.map P.str)]) (R:=λz=>∃x:Ex,x.ok/\z= .p x.p) (gF 52 rfl) (by
  refine Am (dl (fz (dt (fz rfl (fz (d2 (d2 #[Dh c #[]] #[r] (D7 (c/5) (j:=d) (by rw[h];decide))) (d2 rfl #[t] (HC (i:=5) (j:=f) (.inl #[by decide,by decide]))) rfl) rfl))) rfl)) (Jj (ps:=[Ex.num (c/5%d-5*f)].map Ex.p) (p:=(Ex.Lu fs[i]).p) (dt (fz rfl (fz (d2 rfl (d2 #[Dh c #[]] (d1 rfl (B0 _)) (tI (D7 _ (by simp<;>lia)) (by rw[lM];exact G))) H) (fz (dt rfl) rfl)))) (by simp) (Am (d2 (d2 rfl (dl (fz rfl rfl)) J) (d2 #[Dh c #[]] (d2 (d1 rfl (B0 _)) rfl (AK _ 1)) (tI (D7 _ (by simp<;>lia)) (by rw[lM];exact F))) I) (Jj (ps:=[Ex.num (c/5%d-5*f),.Lu fs[i]].map Ex.p) (p:=(Ex.call (ds++[Fj])[j]).p) (dt (fz rfl (fz rfl (fz (dt (fz (dt (fz rfl (fz rfl rfl))) rfl)) rfl)))) (by simp) (R9 (c:=.p (.tup (ps.map P.str))) (λj U=>∃(es:List Ex) (y:Option C) (z:Option C),U=[sI c,sP (.tup (ps.map P.str)),sL o (fs.map P.str),sL o' (ds.map P.str),sL true (es.map Ex.p),y,z]/\es.length=3+j/\∀x∈es,x.ok) rfl rfl #[[.num (c/5%d-5*f),.Lu fs[i],.call (ds++[Fj])[j]],_,_,rfl,rfl,λx a=>?_] ?_ ?_))))
  .simp only[mem_cons,not_mem_nil,or_false]at a;rcases a with rfl|rfl|rfl
   .have N:=Int.emod_nonneg (c/5) (b:=d) (by rw[h];decide);have a1:=Int.emod_lt_of_pos (c/5) (b:=d) (by rw[h];decide);have K:d=1000000000:=by rw[h];decide
    have M:f=100000000:=by rw[q];decide
    have:(10:Int) ^ 60=1000000000000000000000000000000000000000000000000000000000000:=by decide
    exact#[by lia,by lia]
   .exact hf _ (getElem_mem hi)
   .exact n _ (getElem_mem g)
  .rintro j x a _ ⟨es,y,z,rfl,he,l⟩
   rw[List.getElem?_map]at a;rintro⟨s,hs,rfl⟩:oM a;have w:=(List.getElem?_eq_some_iff.mp hs).1;refine#[_,rfl,Jj (ps:=es.map Ex.p) (p:=(Ex.name s).p) (dt (fz rfl (fz rfl rfl))) (by simp<;>lia) #[es++[.name s],y,sS s,by rw[map_append (l₁:=es)];rfl,by simp<;>lia,λx a=>?_]];rcases mZ a with a|a
   .exact l x a
   .rw[mE a];exact v s (mem_of_getElem? hs)
  .rintro _ ⟨es,y,z,rfl,he,l⟩
   rintro⟨m,hm,em⟩:Al c (m:=es.length) (by lia)
   exact Ax (d2 rfl (d2 rfl (d1 rfl (B0 _)) (tI (D7 c (by simp<;>lia)) (by rw[lM];exact em))) (AA rfl (by rw[List.getElem?_map,List.getElem?_eq_getElem hm];rfl))) #[_,l _ (getElem_mem hm),rfl])
 exact#[x,a,e]
end
def Fg(kk:Nat->Str)(fs:List Str)(m:Nat)(ff:List (Str×List Kd)):Prop:=ff.length<=2/\(∀(j:Nat) (f:Str×List Kd),ff[j]? =some f->fs[2*m+j]? =some f.1)/\∀f∈ff,f.2.length<=3/\∀x∈f.2,Kg kk m x
section
variable{k:Nat}{kk:Nat->Str}{o o':Bool}
theorem Fu{m:Nat}(h:m < 3){b:Bool}:Ae (kL b kk) (.p (.int m))=some (.p (.str (kk m))):=AA (ps:=[.str (kk 0),.str (kk 1),.str (kk 2)]) rfl (by rcases(by lia:m=0\/m=1\/m=2)with rfl|rfl|rfl<;>rfl)
theorem Nl(c:Int){fs:List Str}(hf:fs.length=6):∃ff:Nat->List (Str×List Kd),(∀m,m < 3->1<=(ff m).length/\Fg kk fs m (ff m))/\cN (k + 3) 55 [.p (.int c),kL o kk,.lst o' (fs.map P.str)]= .ok (.lst true (((List.range 3).map λm=>Row.kind (kk m) m (ff m)).map Row.p)):=by
 obtain ⟨_, e,ff,h,rfl⟩:=cw (k:=k + 2) (args:=[.p (.int c),kL o kk,.lst o' (fs.map P.str)]) (R:=λz=>∃ff:Nat->List (Str×List Kd),(∀m,m < 3->1<=(ff m).length/\Fg kk fs m (ff m))/\z= .lst true (((List.range 3).map λm=>Row.kind (kk m) m (ff m)).map Row.p)) (gF 53 rfl) (by
  refine Am (dl rfl) (EK (λn U=>∃(ff:Nat->List (Str×List Kd)) (w y5 y6 y7 y8:Option C),U=[sI c,some (kL o kk),sL o' (fs.map P.str),sL true (((List.range n).map λm=>Row.kind (kk m) m (ff m)).map Row.p),w,y5,y6,y7,y8]/\∀m,m < n->1<=(ff m).length/\Fg kk fs m (ff m)) rfl (Cd (n:=3) #[]) #[λ_=>[],_,_,_,_,_,rfl,λm h=>absurd h (Nat.not_lt_zero _)] ?_ ?_)
  .rintro n x q _ ⟨ff,w,y5,y6,y7,y8,rfl,v⟩
   rintro⟨y,rfl⟩:BH q;rintro⟨a,G,D⟩:Al (c/((n:Int)+3)) (m:=2) #[];have e1:Ad (.p (.int 1)) (.p (.int (c/((n:Int)+3)%2)))=some (.p (.int ((1+a:Nat):Int))):=by rw[AK,show c/((n:Int)+3)%2=(a:Int)from D];rfl
   refine#[_,rfl,Am (dl rfl) (EK (λj U=>∃(d:List (Str×List Kd)) (y6 y7 y8:Option C),U=[sI c,some (kL o kk),sL o' (fs.map P.str),sL true (((List.range n).map λm=>Row.kind (kk m) m (ff m)).map Row.p),sI n,sL true (d.map fP),y6,y7,y8]/\d.length=j/\(∀(j:Nat) (f:Str×List Kd),d[j]? =some f->fs[2*n+j]? =some f.1)/\∀f∈d,f.2.length<=3/\∀x∈f.2,Kg kk n x) (d2 rfl (d2 (d2 rfl #[AK (n:Int) 3] (Dh c #[by lia,by lia])) rfl (D7 _ #[])) e1) (Cd (by lia)) #[[],_,_,_,rfl,rfl,(λj f h=>by cases h),λf h=>by cases h] ?_ ?_)]
   .rintro j x q _ ⟨d,y6,y7,y8,rfl,u,s,r⟩
    rintro⟨E,rfl⟩:BH q;rintro⟨b,F,B⟩:Al (c/((n:Int)+j+2)) (m:=4) #[];refine#[_,rfl,Am (dl rfl) (EK (λi U=>∃(xs:List Kd) (y8:Option C),U=[sI c,some (kL o kk),sL o' (fs.map P.str),sL true (((List.range n).map λm=>Row.kind (kk m) m (ff m)).map Row.p),sI n,sL true (d.map fP),sI j,sL true (xs.map Kd.p),y8]/\xs.length=i/\∀x∈xs,Kg kk n x) (d2 (d2 rfl (d2 #[AK (n:Int) j] rfl (AK _ 2)) (Dh c #[by lia,by lia])) rfl (tI (D7 _ (j:=4) #[]) B)) (Cd (by lia)) #[[],_,rfl,rfl,λx h=>by cases h] ?_ ?_)]
    .rintro i x q _ ⟨xs,y8,rfl,l,g⟩
     rintro⟨hi,rfl⟩:BH q;rintro⟨x,q,ex⟩:PK (k:=k) (kk:=kk) (m:=n) (o:=false) (by lia) (c/(5*(n:Int)+7*j+11*i+2)) 1 rfl;refine#[_,rfl,Jj (ps:=xs.map Kd.p) (p:=x.p) (dc (ar (d2 rfl (d2 (d2 (d2 #[HC (i:=5) (j:=(n:Int)) (.inl #[by decide,by decide])] #[HC (i:=7) (j:=(j:Int)) (.inl #[by decide,by decide])] (AK _ _)) #[HC (i:=11) (j:=(i:Int)) (.inl #[by decide,by decide])] (AK _ _)) rfl (AK _ 2)) (Dh c #[by lia,by lia])) (ar rfl (ar rfl (ar rfl rfl)))) ex) (by simp<;>lia) #[xs++[x],sI i,by rw[map_append (l₁:=xs)];rfl,by simp[l],λz hz=>?_]];rcases mZ hz with hz|hz
     .exact g z hz
     .rw[mE hz];exact q
    .rintro _ ⟨xs,y8,rfl,l,g⟩
     rw[Bj]at l;have t:2*n+j < fs.length:=by lia
     have A:Ae (.lst false (fs.map P.str)) (.p (.int ((2*n+j:Nat):Int)))=some (.p (.str fs[2*n+j])):=AA rfl (by rw[List.getElem?_map,List.getElem?_eq_getElem t];rfl);refine Jj (ps:=d.map fP) (p:=fP (fs[2*n+j],xs)) (dt (fz (d2 rfl (d2 #[HC (i:=2) (j:=(n:Int)) (.inl #[by decide,by decide])] rfl (show Ad (.p (.int (2*(n:Int)))) (.p (.int j))=some (.p (.int ((2*n+j:Nat):Int)))from by rw[AK,Int.natCast_add,Int.natCast_mul];rfl)) A) (fz (d1 rfl rfl) rfl))) (by simp<;>lia) #[d++[(fs[2*n+j],xs)],sI j,sL true (xs.map Kd.p),y8,by rw[map_append (l₁:=d)];rfl,by simp[u],λi f h=>?_,λf h=>?_]
     .rw[List.getElem?_append]at h;split at h
      .exact s i f h
      .have:i=j:=by have:=(List.getElem?_eq_some_iff.mp h).1;simp at this;lia
       subst this;rw[u,Nat.sub_self]at h;cases h;exact List.getElem?_eq_getElem t
     .rcases mZ h with h|h
      .exact r f h
      .rw[mE h];exact#[by simp only;lia,g]
   .rintro _ ⟨d,y6,y7,y8,rfl,u,s,r⟩
    rw[Bj]at u;refine Jj (ps:=((List.range n).map λm=>Row.kind (kk m) m (ff m)).map Row.p) (p:=(Row.kind (kk n) n d).p) (dt (fz rfl (fz #[Fu y] (fz rfl (fz (d1 rfl rfl) rfl))))) (by simp<;>lia) #[λm=>if m=n then d else ff m,sI n,sL true (d.map fP),y6,y7,y8,?_,λm hm=>?_]
    .rw[range_succ,map_append,map_append,show((List.range n).map λm=>Row.kind (kk m) m (if m=n then d else ff m))=(List.range n).map λm=>Row.kind (kk m) m (ff m)from map_congr_left λm hm=>by rw[iN (Nat.ne_of_lt (mem_range.mp hm))]];show _=[_,_,_,some (C.lst true (_++[(Row.kind (kk n) n (if n=n then d else ff n)).p])),_,_,_,_,_];rw[iP rfl];rfl
    .by_cases e:m=n
     .subst e;show 1<=(if m=m then d else ff m).length/\Fg kk fs m (if m=m then d else ff m);rw[iP rfl];exact#[by lia,by lia,s,r]
     .show 1<=(if m=n then d else ff m).length/\Fg kk fs m (if m=n then d else ff m);rw[iN e];exact v m (by lia)
  .rintro _ ⟨ff,w,y5,y6,y7,y8,rfl,v⟩
   rw[Bj]at v ⊢
   exact MQ #[ff,v,rfl])
 exact#[ff,h,e]
end
structure Cg(cc:Nat->Str)(el:Nat->List Str):Prop where
 e0:el 0=[]
 e1:∀x∈el 1,x=cc 0
 e2:∀x∈el 2,x=cc 0\/x=cc 1
 l1:(el 1).length<=1
 l2:(el 2).length<=2
def Ck(cc:Nat->Str)(el:Nat->List Str):List Row:=[.cls (cc 0) (el 0),.cls (cc 1) (el 1),.cls (cc 2) (el 2)]
section
variable{k:Nat}{cc:Nat->Str}{o o':Bool}
theorem LI(c:Int):∃el,Cg cc el/\cN (k + 1) 56 [.p (.int c),kL o cc]= .ok (.lst true ((Ck cc el).map Row.p)):=by
 rintro⟨i,hi,d⟩:Al c (m:=2) #[];rintro⟨j,e,b⟩:Al (c/2) (m:=5) #[]
 have s1:∃l:List Str,(l=[]\/l=[cc 0])/\Ae (.lst true [.tup [],.tup [.str (cc 0)]]) (.p (.int i))=some (.p (.tup (l.map P.str))):=by
  rcases(by lia:i=0\/i=1)with rfl|rfl
  .exact#[[],.inl rfl,AA rfl rfl]
  .exact#[[cc 0],.inr rfl,AA rfl rfl]
 have s2:∃l:List Str,((∀x∈l,x=cc 0\/x=cc 1)/\l.length<=2)/\Ae (.lst true [.tup [],.tup [.str (cc 0)],.tup [.str (cc 1)],.tup [.str (cc 0),.str (cc 1)],.tup [.str (cc 1),.str (cc 0)]]) (.p (.int j))=some (.p (.tup (l.map P.str))):=by
  rcases(by lia:j=0\/j=1\/j=2\/j=3\/j=4)with rfl|rfl|rfl|rfl|rfl
  .exact#[[],#[by simp,by simp],AA rfl rfl]
  .exact#[[cc 0],#[by simp,by simp],AA rfl rfl]
  .exact#[[cc 1],#[by simp,by simp],AA rfl rfl]
  .exact#[[cc 0,cc 1],#[by simp,by simp],AA rfl rfl]
  .exact#[[cc 1,cc 0],#[by simp,by simp],AA rfl rfl]
 rintro⟨l1,h1,s1⟩:s1;rintro⟨l2,h2,s2⟩:s2;refine#[λm=>if m=0 then[]else if m=1 then l1 else l2,#[rfl,λx a=>?_,h2.1,?_,h2.2],ce (gF 54 rfl) (aG rfl rfl (Am (d2 (dl (fz (dt rfl) (fz (dt (fz rfl rfl)) rfl))) #[tI (D7 c (j:=2) #[]) d] s1) (Am (d2 (dl (fz (dt rfl) (fz (dt (fz rfl rfl)) (fz (dt (fz rfl rfl)) (fz (dt (fz rfl (fz rfl rfl))) (fz (dt (fz rfl (fz rfl rfl))) rfl)))))) (d2 #[Dh c #[]] rfl (tI (D7 (c/2) (j:=5) #[]) b)) s2) (Ax (dl (fz (dt (fz rfl (fz rfl (fz (dt rfl) rfl)))) (fz (dt (fz rfl (fz rfl (fz rfl rfl)))) (fz (dt (fz rfl (fz rfl (fz rfl rfl)))) rfl)))) rfl))))]
 .rcases h1 with rfl|rfl
  .cases a
  .exact mE a
 .rcases h1 with rfl|rfl<;>exact Nat.le_of_ble_eq_true rfl
def md(c:Int)(i:Nat):Nat:=(c/(3*(i:Int)+1)%5).toNat
def nf(w:Nat)(cls:Str)(el:List Str)(d:Str):Option Str:=if w=2\/(w=3/\el=[])then none else if w=1 then some d else some cls
def Gy(c:Int)(n:Nat)(cls:Str)(el:List Str)(d:Str):List (Option Str):=(List.range n).map λi=>nf (md c i) cls el d
theorem Zi(c:Int){n:Nat}(u:n<=3)(cls:Str)(el:List Str):cN (k + 1) 58 [.p (.int c),.p (.int n),.p (.str cls),.p (.tup (el.map P.str)),kL o cc]= .ok (.p (.tup ((Gy c n cls el (cc 2)).map oP))):=by
 have a:Bd (.p (.tup (el.map P.str))) (.p (.tup []))=some (bC (decide (el=[]))):=by
  have:Xf (.p (.tup (el.map P.str))) (.p (.tup []))=some (decide (P.tup (el.map P.str)= .tup [])):=aq (by show(decide ((P.tup []).tag < 4) || BA (el.map P.str) [])=true;cases el<;>rfl) (Nat.le_trans (BX el).2 #[]);unfold Bd;rw[this];cases el<;>rfl
 refine ce (gF 56 rfl) (Am (dl rfl) (R9 (c:=.p (.int n)) (λj U=>∃y6 y7 y8,U=[sI c,sI n,sS cls,sP (.tup (el.map P.str)),some (kL o cc),sL true ((Gy c j cls el (cc 2)).map oP),y6,y7,y8]) rfl (Cd (by lia)) #[_,_,_,rfl] ?_ ?_))
 .rintro j x s _ ⟨y6,y7,y8,rfl⟩
  rintro⟨v,rfl⟩:BH s;rintro⟨w,hw,l⟩:Al (c/(3*(j:Int)+1)) (m:=5) #[];have g:md c j=w:=by unfold md;rw[show c/(3*(j:Int)+1)%5=(w:Int)from l];rfl
  have t:Aw Du (.p (.int (c/(3*(j:Int)+1)))) (.p (.int 5))=some (.p (.int w)):=tI (D7 _ (j:=5) #[]) l;have app:∀q:Option Str,Gy c (j+1) cls el (cc 2)=Gy c j cls el (cc 2)++[q]->(Gy c (j+1) cls el (cc 2)).map oP=(Gy c j cls el (cc 2)).map oP++[oP q]:=λq h=>by rw[h,map_append];rfl
  have f:Gy c (j+1) cls el (cc 2)=Gy c j cls el (cc 2)++[nf w cls el (cc 2)]:=by unfold Gy;rw[range_succ,map_append,map_singleton,g]
  have r:(Gy c j cls el (cc 2)).length=j:=by simp[Gy]
  have fin:∀(q:Option Str) y7,nf w cls el (cc 2)=q->WP (k<<<[(.Ce 5 true (EL LK) [{8}])]>>>[sI c,sI n,sS cls,sP (.tup (el.map P.str)),some (kL o cc),sL true ((Gy c j cls el (cc 2)).map oP),sI j,y7,sP (oP q)]) (λU=>∃y6 y7 y8,U=[sI c,sI n,sS cls,sP (.tup (el.map P.str)),some (kL o cc),sL true ((Gy c (j+1) cls el (cc 2)).map oP),y6,y7,y8]) (λd=>C.p (.tup ((Gy c n cls el (cc 2)).map oP))=d):=λq y7 hq=>Jj (ps:=(Gy c j cls el (cc 2)).map oP) (p:=oP q) rfl (by simp[r];lia) #[some (.p (.int j)),y7,sP (oP q),by rw[app q (hq▸f)];rfl]
  refine#[_,rfl,Am (d2 (d2 rfl (d2 #[HC (i:=3) (j:=(j:Int)) (.inl #[by decide,by decide])] rfl (AK _ 1)) (Dh c #[by lia,by lia])) rfl t) (Am rfl ?_)]
  by_cases h1:w=1
  .refine wit (bb #[K6 (by rw[h1];rfl)]) (Am #[Fu (m:=2) #[]] (Cn (Ag (CV (bb #[DS (by rw[h1];decide)]) (UU (bb #[DS (by rw[h1];decide)]))) (fin (some (cc 2)) _ (by unfold nf;rw[iN (by rw[h1];simp),iP h1])))))
  .refine Ag (bb #[DS (by lia)]) ?_
   by_cases h2:w=2
   .exact wit (QA (bb #[K6 (by rw[h2];rfl)])) (Am rfl (Cn (fin none _ (iP (.inl h2)))))
   .by_cases e:w=3
    .by_cases b:el=[]
     .rw[dZ b]at a;exact wit (CV (bb #[DS (by lia)]) (QF (bb #[K6 (by rw[e];rfl)]) (bb (d2 rfl (dt rfl) a)))) (Am rfl (Cn (fin none _ (iP (.inr #[e,b])))))
     .rw[dF b]at a;exact Ag (CV (bb #[DS (by lia)]) (QF (bb #[K6 (by rw[e];rfl)]) (bb (d2 rfl (dt rfl) a)))) (fin (some cls) _ (by unfold nf;rw[iN (λz=>z.elim h2 λz=>b z.2),iN h1]))
    .exact Ag (CV (bb #[DS (by lia)]) (UU (bb #[DS (by lia)]))) (fin (some cls) _ (by unfold nf;rw[iN (λz=>z.elim h2 λz=>e z.1),iN h1]))
 .rintro _ ⟨y6,y7,y8,rfl⟩
  rw[Bj];exact Ax (d1 rfl rfl) rfl
end
structure Dg(kk cc:Nat->Str)(d:Str×List Kd×Kd):Prop where
 c:∃i,i < 3/\d.1=cc i
 l:d.2.1.length<=3
 g:∀x∈d.2.1++[d.2.2],Kg kk 1 x
 z:∃x∈d.2.1++[d.2.2],∃i,Kd.op i∈x.w
def An(dd:Nat->Str)(D:Nat->Str×List Kd×Kd)(n:Nat):List Row:=(List.range n).map λi=>.Ba (dd i) (D i).1 (D i).2.1 (D i).2.2
section
variable{k:Nat}{kk cc dd:Nat->Str}{o1 o2 o3:Bool}
theorem R7(w:Int):∃x:Kd,Kg kk 1 x/\(∃i,Kd.op i∈x.w)/\∀{cf:CF} {U:Env},A8 U 3=some (kL o3 kk)->A8 U 6=some (.p (.int w))->(den cf (.A1 Ae (.lst [{0,0},(.tup [{3,1,0},{0,0}])]) (.A1 (Aw Du) (.A1 (Aw EB) {6} {50,0}) {2,0}))).v U= .ok (.p x.p):=by
 rintro⟨i,hi,d⟩:Al (w/50) (m:=2) #[];have e2:=tI (D7 (w/50) (j:=2) #[]) d;rcases(by lia:i=0\/i=1)with rfl|rfl
 .exact#[.op 0,.inl #[.op 0,Nat.zero_lt_one,rfl],#[0,by simp[Kd.w]],λc a=>d2 (dl (fz rfl (fz (dt (fz (d2 (Td c) rfl (Fu (m:=1) (b:=false) #[])) (fz rfl rfl))) rfl))) (d2 (d2 (Td a) rfl (Dh w #[])) rfl e2) (AA rfl rfl)]
 .exact#[.mk (kk 1) [.op 0],.inr (.inl #[.op 0,Nat.zero_lt_one,rfl]),#[0,by simp[Kd.w,Kd.parts,Lf.k]],λc a=>d2 (dl (fz rfl (fz (dt (fz (d2 (Td c) rfl (Fu (m:=1) (b:=false) #[])) (fz rfl rfl))) rfl))) (d2 (d2 (Td a) rfl (Dh w #[])) rfl e2) (AA rfl rfl)]
theorem NF(c:Int):∃(n:Nat) (D:Nat->Str×List Kd×Kd),(1<=n/\n<=3/\∀i,i < n->Dg kk cc (D i))/\cN (k + 3) 57 [.p (.int c),kL o1 dd,kL o2 cc,kL o3 kk]= .ok (.lst true ((An dd D n).map Row.p)):=by
 rintro⟨n,Q,I⟩:Al c (m:=3) #[];have e1:Ad (.p (.int 1)) (.p (.int (c%3)))=some (.p (.int ((1+n:Nat):Int))):=by rw[AK,show c%3=(n:Int)from I];rfl
 obtain ⟨_,e,D,h,rfl⟩:=cw (k:=k + 2) (args:=[.p (.int c),kL o1 dd,kL o2 cc,kL o3 kk]) (R:=λz=>∃D:Nat->Str×List Kd×Kd,(∀i,i < 1 + n->Dg kk cc (D i))/\z= .lst true ((An dd D (1 + n)).map Row.p)) (gF 55 rfl) (by
  refine Am (dl rfl) (EK (λj U=>∃(D:Nat->Str×List Kd×Kd) (y5 y6 y7 y8 y9:Option C),U=[sI c,some (kL o1 dd),some (kL o2 cc),some (kL o3 kk),sL true ((An dd D j).map Row.p),y5,y6,y7,y8,y9]/\∀i,i < j->Dg kk cc (D i)) (d2 rfl #[D7 c #[]] e1) (Cd (by lia)) #[λ_=>(cc 0,[],.op 0),_,_,_,_,_,rfl,λi h=>absurd h (Nat.not_lt_zero _)] ?_ ?_)
  .rintro j x d _ ⟨D,y5,y6,y7,y8,y9,rfl,u⟩
   rintro⟨S,rfl⟩:BH d;obtain⟨w,hw⟩:∃w,w=c/(3+4*(j:Int)):=#[_,rfl];have O:Aw EB (.p (.int c)) (.p (.int (3+4*(j:Int))))=some (.p (.int w)):=by rw[hw];exact Dh c #[by lia,by lia]
   rintro⟨b,T,K⟩:Al w (m:=4) #[];have E:∀i:Nat,∃x:Kd,Kg kk 1 x/\cN (k+2) 53 [.p (.int (w/((i:Int)+2))),kL false kk,.p (.int ((1:Nat):Int)),.p (.int 1)]= .ok (.p x.p):=λi=>PK (k:=k) (m:=1) #[] _ 1 rfl
   rintro⟨g,A⟩:Classical.skolem.mp E;rintro⟨r,F,H⟩:PK (k:=k) (kk:=kk) (m:=1) (o:=false) #[] (w/7) 1 rfl;rintro⟨z,q,l,B⟩:R7 (kk:=kk) (o3:=o3) w;rintro⟨i,hi,J⟩:Al (w/100) (m:=3) #[];have f:((List.range b).map g).length=b:=by simp
   rintro⟨a,V,M⟩:Al (w/11) (m:=b+1) (by lia)
   have fin:∀(ks:List Kd) (r:Kd) (y9:Option C),ks.length<=3->(∀x∈ks++[r],Kg kk 1 x)->(∃x∈ks++[r],∃i,Kd.op i∈x.w)->WP ((k + 2)<<<[(.Ce 4 true (EL LK) [(.tup [{"deed"},(.A1 Ae {1} {5}),(.A1 Ae {2} (.A1 (Aw Du) (.A1 (Aw EB) {6} {100,0}) {3,0})),(.Ak Jo {7}),{8}])])]>>>[sI c,some (kL o1 dd),some (kL o2 cc),some (kL o3 kk),sL true ((An dd D j).map Row.p),sI j,sI w,sL true (ks.map Kd.p),sP r.p,y9]) (λU=>∃(D:Nat->Str×List Kd×Kd) (y5 y6 y7 y8 y9:Option C),U=[sI c,some (kL o1 dd),some (kL o2 cc),some (kL o3 kk),sL true ((An dd D (j + 1)).map Row.p),y5,y6,y7,y8,y9]/\∀i,i < j + 1->Dg kk cc (D i)) (λz=>∃D:Nat->Str×List Kd×Kd,(∀i,i < 1 + n->Dg kk cc (D i))/\z= .lst true ((An dd D (1 + n)).map Row.p)):=λks r y9 h1 h2 G=>by
    have t:=tI (D7 (w/100) (j:=3) #[]) J;refine Jj (ps:=(An dd D j).map Row.p) (p:=(Row.Ba (dd j) (cc i) ks r).p) (dt (fz rfl (fz #[Fu (kk:=dd) (by lia)] (fz (d2 rfl (d2 #[Dh w #[]] rfl t) (Fu hi)) (fz (d1 rfl rfl) (fz rfl rfl)))))) (by simp[An];lia) #[λm=>if m=j then(cc i,ks,r)else D m,sI j,sI w,sL true (ks.map Kd.p),sP r.p,y9,?_,λm hm=>?_]
    .have:An dd (λm=>if m=j then(cc i,ks,r)else D m) (j + 1)=An dd D j++[.Ba (dd j) (cc i) ks r]:=by
      unfold An;rw[range_succ,map_append,map_singleton];dsimp only;rw[iP rfl];exact congrArg (·++_) (map_congr_left λm hm=>by rw[iN (Nat.ne_of_lt (mem_range.mp hm))])
     rw[this,map_append (l₁:=An dd D j)];rfl
    .by_cases e:m=j
     .show Dg kk cc (if m=j then(cc i,ks,r)else D m);rw[iP e];exact#[#[i,hi,rfl],h1,h2,G]
     .show Dg kk cc (if m=j then(cc i,ks,r)else D m);rw[iN e];exact u m (by lia)
   have s:∀x∈(List.range b).map g,Kg kk 1 x:=λx d=>by rintro⟨i,_,rfl⟩:mem_map.mp d;exact(A i).1
   refine#[_,rfl,Am (d2 rfl (d2 rfl #[HC (i:=4) (j:=(j:Int)) (.inl #[by decide,by decide])] (AK 3 _)) O) (Am (Qo (λi:Nat=>.int i) (List.range b) (λ_=>true) (λi=>(g i).p) #[tI (D7 w (j:=4) #[]) K] (JD (by lia)) (by simp<;>lia) λi v=>#[_,rfl,rfl,λ_=>#[_,dc (ar (d2 rfl #[AK (i:Int) 2] (Dh w #[by lia,by rw[mem_range]at v;lia])) (ar rfl (ar rfl (ar rfl rfl)))) (A i).2,rfl]]) ?_)];rw[filter_tt,show((List.range b).map λi=>(g i).p)=((List.range b).map g).map Kd.p from by rw[map_map];rfl];have N:Aw Du (.p (.int (w/11))) (.p (.int ((((List.range b).map g).map Kd.p).length+1)))=some (.p (.int a)):=tI (D7 _ (by simp<;>lia)) (by rw[lM,f];exact M);refine Am (dc (ar #[Dh w #[]] (ar rfl (ar rfl (ar rfl rfl)))) H) (Am (d2 #[Dh w #[]] (d2 (d1 rfl (B0 _)) rfl (AK _ 1)) N) ?_)
   by_cases y:a=b
   .refine wit (bb (d2 rfl (d1 rfl (B0 _)) (K6 (by rw[lM,f,y])))) (Am (B rfl rfl) (Cn (fin _ z _ (by lia) (λx d=>?_) #[z,by simp,l])));rcases mZ d with d|d
    .exact s x d
    .rw[mE d];exact q
   .refine Y9 (bb (d2 rfl (d1 rfl (B0 _)) (DS (by rw[lM,f];lia)))) (NT (c:=.lst true (((List.range b).map g).map Kd.p)) (c':=.lst true ((((List.range b).map g).set a z).map Kd.p)) (ar (B rfl rfl) (ar rfl rfl)) ?_ (Cn (fin (((List.range b).map g).set a z) r _ (by simp<;>lia) (λx d=>?_) #[z,?_,l])))
    .show(((IK (((List.range b).map g).map Kd.p).length (a:Int)).map λk=>nw ((((List.range b).map g).map Kd.p).set k z.p)) <|> _)=_;unfold IK;rw[iP (by lia),iP (by rw[lM,f];lia),Int.toNat_natCast,List.map_set];rfl
    .rcases mZ d with d|d
     .rcases List.mem_or_eq_of_mem_set d with d|rfl
      .exact s x d
      .exact q
     .rw[mE d];exact F
    .refine mL (mem_of_getElem? (i:=a) ?_);rw[List.getElem?_set_self (by rw[f];lia)]
  .rintro _ ⟨D,y5,y6,y7,y8,y9,rfl,u⟩
   rw[Bj]at u ⊢
   exact MQ #[D,u,rfl])
 exact#[1+n,D,#[by lia,by lia,h],e]
theorem turned(c:Int){rows:List Row}(hl:rows.length<=60):∃rs:List Row,rs.Perm rows/\cN (k + 1) 61 [.lst o1 (rows.map Row.p),.p (.int c)]= .ok (.lst true (rs.map Row.p)):=by
 rintro⟨_,e,rs,h,rfl⟩:cw (k:=k) (args:=[.lst o1 (rows.map Row.p),.p (.int c)]) (R:=λz=>∃rs:List Row,rs.Perm rows/\z= .lst true (rs.map Row.p)) (gF 59 rfl) (by
  refine Am (dl rfl) (R9 (c:=.lst o1 (rows.map Row.p)) (λj U=>∃(rs:List Row) (d:Int) (y:Option C),U=[sL false (rows.map Row.p),sI d,sL true (rs.map Row.p),y]/\rs.Perm (rows.take j)) rfl rfl #[[],c,_,rfl,List.Perm.refl _] ?_ ?_)
  .rintro j x f _ ⟨rs,d,y,rfl,a⟩
   rw[List.getElem?_map]at f;rintro⟨r,l,rfl⟩:oM f;have g:rs.length<=60:=by rw[a.length_eq,length_take];lia
   rintro⟨i,hi,n⟩:Al ((d*48271+3)%2147483647) (m:=rs.length+1) (by lia);have e2:Aw Du (.p (.int ((d*48271+3)%2147483647))) (.p (.int ((rs.map Row.p).length+1)))=some (.p (.int i)):=tI (D7 _ (by simp<;>lia)) (by rw[lM];exact n);refine#[_,rfl,Am (d2 (d2 #[HC (i:=d) (j:=48271) (.inr #[by decide,by decide])] rfl (AK _ 3)) rfl (D7 _ #[])) (NT (c:=.lst true (rs.map Row.p)) (c':=.lst true ((rs.take i++r::rs.drop i).map Row.p)) (ar (d2 rfl (d2 (d1 rfl (B0 _)) rfl (AK _ 1)) e2) (ar rfl rfl)) ?_ #[rs.take i++r::rs.drop i,_,sP r.p,rfl,?_])]
   .show(if 0<=(i:Int)/\(i:Int)<=(rs.map Row.p).length/\(rs.map Row.p).length < big then some (nw ((rs.map Row.p).take (i:Int).toNat++r.p::(rs.map Row.p).drop (i:Int).toNat))else none)=_;rw[iP #[by lia,by simp<;>lia,show _ < 100000 by simp<;>lia],Int.toNat_natCast,map_append,map_cons,List.map_take,List.map_drop]
   .rw[take_add_one,l,Option.toList_some];refine List.perm_middle.trans ?_;rw[take_append_drop];exact(List.Perm.cons r a).trans (List.perm_append_singleton ..).symm
  .rintro _ ⟨rs,d,y,rfl,a⟩
   rw[lM,take_length]at a;have:∀{R:C->Prop} {N:Env->Prop} {b:Bool},R (.lst true (rs.map Row.p))->WP (k<<<[.CG 2]>>>(Ra (some (.lst b (rows.map Row.p))) 0 [sL false (rows.map Row.p),sI d,sL true (rs.map Row.p),y])) N R:=λ{R N b} h=>by cases b<;>exact MQ h
   exact this #[rs,a,rfl])
 exact#[rs,h,e]
end
def Cl(cc:Nat->Str)(el:Nat->List Str)(pk:Nat->Bool)(j:Nat):Prop:=pk j=true->∀i,i < 3->cc i∈el j->pk i=true
def kn(kk:Nat->Str)(n:Nat):Str:=if n < 3 then kk n else "whole"
def QW(kk cc:Nat->Str)(el:Nat->List Str)(c:Int)(n j:Nat):Row:=.Af (cc j) (kn kk n) (Gy (c/((n:Int)+2)) (n%3) (cc j) (el j) (cc 2))
def Ac(kk cc:Nat->Str)(el:Nat->List Str)(c:Int)(pk:Nat->Nat->Bool)(m:Nat):List Row:=(List.range m).flatMap λn=>((List.range 3).filter (pk n)).map (QW kk cc el c n)
abbrev bL(pk:Nat->Bool):List P:=[.bl (pk 0),.bl (pk 1),.bl (pk 2)]
section
variable{k:Nat}{kk cc:Nat->Str}{el:Nat->List Str}{o1 o2 o3 o:Bool}
variable{j:Nat}
theorem MG{pk:Nat->Bool}(h:j < 3):Ae (.lst o (bL pk)) (.p (.int j))=some (bC (pk j)):=AA (ps:=bL pk) rfl (by rcases(by lia:j=0\/j=1\/j=2)with rfl|rfl|rfl<;>rfl)
theorem Qu(h:j < 3):Ae (.lst false ((Ck cc el).map Row.p)) (.p (.int j))=some (.p (Row.cls (cc j) (el j)).p):=AA rfl (by rcases(by lia:j=0\/j=1\/j=2)with rfl|rfl|rfl<;>rfl)
theorem Zx(u:∀i j,i < 3->j < 3->cc i=cc j->i=j){i:Nat}(h:i < 3):Dy (kL false cc) (.p (.str (cc i)))=some (.p (.int i)):=by
 show((([cc 0,cc 1,cc 2]:List Str).idxOf? (cc i)).map λ(k:Nat)=>C.p (.int (k:Int)))=_;have ne:∀a b,a < 3->b < 3->a≠b->(cc a == cc b)=false:=λa b d c h=>beq_eq_false_iff_ne.mpr λe=>h (u a b d c e)
 rcases(by lia:i=0\/i=1\/i=2)with rfl|rfl|rfl
 .simp[List.idxOf?,List.findIdx?_cons]
 .simp[List.idxOf?,List.findIdx?_cons,ne 0 1 #[] #[] #[]]
 .simp[List.idxOf?,List.findIdx?_cons,ne 0 2 #[] #[] #[],ne 1 2 #[] #[] #[]]
theorem EC(g:Cg cc el)(a:j < 3){x:Str}(h:x∈el j):∃i,i < j/\x=cc i:=by
 rcases(by lia:j=0\/j=1\/j=2)with rfl|rfl|rfl
 .rw[g.e0]at h;cases h
 .exact#[0,by decide,g.e1 x h]
 .rcases g.e2 x h with e|e
  .exact#[0,by decide,e]
  .exact#[1,by decide,e]
theorem mark(g:Cg cc el)(u:∀i j,i < 3->j < 3->cc i=cc j->i=j){a b d e:Option C}{R:C->Prop}{N:Env->Prop}{ss:List S}{pk:Nat->Bool}{y6 y8 y9 y10:Option C}(h:∀pk y6 y8,(∀j,j < 3->Cl cc el pk j)->WP (k<<<ss>>>[a,b,some (kL o2 cc),sL o3 ((Ck cc el).map Row.p),d,e,y6,sL true (bL pk),y8,y9,y10]) N R):
 WP (k<<<(.Dj (.nm 6) AM (.lst [{2,0},{1,0},{0,0}]) [(.Dj (.nm 8) AM (.A1 Ae (.A1 Ae {3} {6}) {2,0}) [(.ifs (.A1 Ae {7} {6}) [(.Ce 7 false (Dt λc x k=>Dq c k x) [(.cst (.p (.bl true))),(.A1 Dy {2} {8})])] [])])]::ss)>>>[a,b,some (kL o2 cc),sL o3 ((Ck cc el).map Row.p),d,e,y6,sL true (bL pk),y8,y9,y10]) N R:=by
 refine EK (xs:=[.int ((2:Nat):Int),.int ((1:Nat):Int),.int ((0:Nat):Int)]) (λt U=>∃pk y6 y8,U=[a,b,some (kL o2 cc),sL o3 ((Ck cc el).map Row.p),d,e,y6,sL true (bL pk),y8,y9,y10]/\∀j,j < 3->3<=t+j->Cl cc el pk j) (dl (fz rfl (fz rfl (fz rfl rfl)))) rfl #[pk,y6,y8,rfl,λj h1 h2=>by lia] ?_ ?_
 .rintro t x n _ ⟨pk,y6,y8,rfl,l⟩
  obtain⟨j,r,y,rfl⟩:∃j,j < 3/\t + j=2/\x= .int (j:Nat):=by
   rcases t with _|_|_|t
   .cases n;exact#[2,by decide,rfl,rfl]
   .cases n;exact#[1,by decide,rfl,rfl]
   .cases n;exact#[0,by decide,rfl,rfl]
   .cases n
  refine#[_,rfl,EK (λs U=>∃pk y8,U=[a,b,some (kL o2 cc),sL o3 ((Ck cc el).map Row.p),d,e,sI j,sL true (bL pk),y8,y9,y10]/\(∀j,j < 3->3<=t+j->Cl cc el pk j)/\(pk j=true->∀i,i < 3->cc i∈(el j).take s->pk i=true)) (d2 #[Qu r] rfl #[2]) rfl #[pk,y8,rfl,l,λ_ i _ h=>by cases h] ?_ ?_]
  .rintro s x n _ ⟨pk,y8,rfl,l,w⟩
   rw[List.getElem?_map]at n;rintro⟨z,hz,rfl⟩:oM n;rintro⟨i,hi,rfl⟩:EC g r (mem_of_getElem? hz);have tk:(el j).take (s+1)=(el j).take s++[cc i]:=by rw[take_add_one,hz];rfl
   refine#[_,rfl,?_];cases v:pk j with
   |false=>exact Ag (bb #[by rw[<-v];exact MG r]) #[pk,_,rfl,l,λh=>by rw[v]at h;cases h]
   |true=>
     refine wit (bb #[by rw[<-v];exact MG r]) (NT (c:=.lst true (bL pk)) (c':=.lst true (bL λm=>if m=i then true else pk m)) (ar rfl (ar #[Zx u (by lia)] rfl)) ?_ (Cn #[λm=>if m=i then true else pk m,sS (cc i),rfl,λq h1 h2=>?_,λh m hm f=>?_]))
     .rcases(by lia:i=0\/i=1)with rfl|rfl<;>rfl
     .intro h m hm f;show(if m=i then true else pk m)=true
      by_cases e:m=i
      .rw[iP e]
      .rw[iN e];refine l q h1 h2 ?_ m hm f;have h:(if q=i then true else pk q)=true:=h;rwa[iN (by lia)]at h
     .show(if m=i then true else pk m)=true
      by_cases e:m=i
      .rw[iP e]
      .rw[iN e];rw[tk]at f;rcases mZ f with f|f
       .exact w v m hm f
       .exact absurd (u m i hm (by lia) (mE f)) e
  .rintro _ ⟨pk,y8,rfl,l,w⟩
   rw[lM,take_length]at w;refine Cn #[pk,_,y8,rfl,λq h1 h2=>?_]
   by_cases e:q=j
   .rw[e];exact w
   .exact l q h1 (by lia)
 .rintro _ ⟨pk,y6,y8,rfl,l⟩
  exact h pk y6 y8 λj r=>l j r (by show 3<=3+j;lia)
theorem Ll(g:Cg cc el)(u:∀i j,i < 3->j < 3->cc i=cc j->i=j)(c:Int):∃pk:Nat->Nat->Bool,(∀n,n < 4->∀j,j < 3->Cl cc el (pk n) j)/\cN (k + 2) 59 [.p (.int c),kL o1 kk,kL o2 cc,.lst o3 ((Ck cc el).map Row.p)]= .ok (.lst true ((Ac kk cc el c pk 4).map Row.p)):=by
 have hlen:∀pk m,(Ac kk cc el c pk m).length<=3 * m:=λpk m=>by
  induction m with
  |zero=>exact Nat.le_refl _
  |succ m r=>
    unfold Ac at r ⊢;rw[range_succ (n:=m),flatMap_append,lA,flatMap_singleton,lM];have:((List.range 3).filter (pk m)).length<=(List.range 3).length:=length_filter_le _ _;rw[length_range]at this
    lia
 obtain ⟨_,e,pk,h,rfl⟩:=cw (k:=k + 1) (args:=[.p (.int c),kL o1 kk,kL o2 cc,.lst o3 ((Ck cc el).map Row.p)]) (R:=λz=>∃pk:Nat->Nat->Bool,(∀n,n < 4->∀j,j < 3->Cl cc el (pk n) j)/\z= .lst true ((Ac kk cc el c pk 4).map Row.p)) (gF 57 rfl) (by
  refine Am (dl rfl) (EK (λn U=>∃(pk:Nat->Nat->Bool) (y5 y6 y7 y8 y9 y10:Option C),U=[sI c,some (kL o1 kk),some (kL o2 cc),sL o3 ((Ck cc el).map Row.p),sL true ((Ac kk cc el c pk n).map Row.p),y5,y6,y7,y8,y9,y10]/\∀m,m < n->∀j,j < 3->Cl cc el (pk m) j) rfl (Cd (n:=4) #[]) #[λ_ _=>false,_,_,_,_,_,_,rfl,λm h=>absurd h (Nat.not_lt_zero _)] ?_ ?_)
  .rintro n x q _ ⟨pk,y5,y6,y7,y8,y9,y10,rfl,l⟩
   rintro⟨B,rfl⟩:BH q;have w:Ad (kL false kk) (.lst true [.str "whole"])=some (.lst true [.str (kk 0),.str (kk 1),.str (kk 2),.str "whole"]):=rfl;have y:Ae (.lst true [.str (kk 0),.str (kk 1),.str (kk 2),.str "whole"]) (.p (.int n))=some (.p (.str (kn kk n))):=AA rfl (by rcases(by lia:n=0\/n=1\/n=2\/n=3)with rfl|rfl|rfl|rfl<;>rfl);refine#[_,rfl,Am (Qo (λi:Nat=>.int i) (List.range 3) (λ_=>true) (λi=>.bl (decide ((0:Int) < c/(7*(n:Int)+(i:Int)*i+1)%3))) rfl (JD (n:=3) #[]) (by simp) λi hi=>#[_,rfl,rfl,λ_=>#[_,d2 (d2 (d2 rfl (d2 (d2 #[HC (i:=7) (j:=(n:Int)) (.inl #[by decide,by decide])] #[HC (i:=(i:Int)) (j:=(i:Int)) (.inl #[by lia,by rw[mem_range]at hi;lia])] (AK _ _)) rfl (AK _ 1)) (Dh c #[?_,?_])) rfl (D7 _ #[])) rfl rfl,rfl]]) ?_]
   .have:=Int.mul_nonneg (a:=(i:Int)) (b:=(i:Int)) (by lia) (by lia);lia
   .rw[mem_range]at hi;have:(i:Int)*(i:Int)<=3*3:=Int.mul_le_mul (by lia) (by lia) (by lia) (by lia);lia
   refine mark (pk:=λi=>decide ((0:Int) < c/(7*(n:Int)+(i:Int)*i+1)%3)) g u λp y6 y8 s=>Am (d2 (d2 rfl (dl (fz rfl rfl)) w) rfl y) (EK (λj U=>∃y6 y8 y10,U=[sI c,some (kL o1 kk),some (kL o2 cc),sL o3 ((Ck cc el).map Row.p),sL true ((Ac kk cc el c pk n++((List.range j).filter p).map (QW kk cc el c n)).map Row.p),sI n,y6,sL true (bL p),y8,sS (kn kk n),y10]) rfl (Cd (n:=3) #[]) #[y6,y8,_,by simp;rfl] ?_ ?_)
   .rintro j x q _ ⟨y6,y8,y10,rfl⟩
    rintro⟨f,rfl⟩:BH q;refine#[_,rfl,?_];cases d:p j with
    |false=>exact Ag (bb #[by rw[<-d];exact MG f]) #[some (.p (.int j)),y8,y10,by rw[range_succ (n:=j),filter_append,show[j].filter p=[]from by simp[d],append_nil];rfl]
    |true=>
      have A:Aw Du (.p (.int n)) (.p (.int 3))=some (.p (.int ((n%3:Nat):Int))):=(D7 _ #[]).trans (by rw[Int.natCast_emod];rfl);have v:=hlen pk n;have t:((List.range j).filter p).length<=j:=Nat.le_trans (length_filter_le _ _) (by rw[length_range];exact Nat.le_refl _);refine wit (bb #[by rw[<-d];exact MG f]) (Am (dc (ar (d2 rfl #[AK (n:Int) 2] (Dh c #[by lia,by lia])) (ar #[A] (ar #[Fu f] (ar (d2 #[Qu f] rfl #[2]) (ar rfl rfl))))) (Zi (k:=k) (cc:=cc) (c/((n:Int)+2)) (n:=n%3) (by lia) (cc j) (el j))) (Jj (ps:=(Ac kk cc el c pk n++((List.range j).filter p).map (QW kk cc el c n)).map Row.p) (p:=(QW kk cc el c n j).p) (dt (fz rfl (fz #[Fu f] (fz rfl (fz rfl rfl))))) (by rw[lM,lA,lM];lia) (Cn #[some (.p (.int j)),y8,sP (.tup ((Gy (c/((n:Int)+2)) (n%3) (cc j) (el j) (cc 2)).map oP)),?_])));rw[range_succ (n:=j),filter_append,show[j].filter p=[j]from by simp[d],map_append (l₁:=(List.range j).filter p),map_singleton,<-append_assoc,map_append (l₁:=_++_)];rfl
   .rintro _ ⟨y6,y8,y10,rfl⟩
    rw[Bj];refine Cn #[λm=>if m=n then p else pk m,sI n,y6,sL true (bL p),y8,sS (kn kk n),y10,?_,λm hm=>?_]
    .have:Ac kk cc el c (λm=>if m=n then p else pk m) (n + 1)=Ac kk cc el c pk n++((List.range 3).filter p).map (QW kk cc el c n):=by
      unfold Ac;rw[range_succ (n:=n),flatMap_append,flatMap_singleton];dsimp only;rw[iP rfl];refine congrArg (·++_) ?_;rw[List.flatMap_def,List.flatMap_def];exact congrArg List.flatten (map_congr_left λm hm=>by rw[iN (Nat.ne_of_lt (mem_range.mp hm))])
     rw[this]
    .by_cases e:m=n
     .show ∀j,j < 3->Cl cc el (if m=n then p else pk m) j;rw[iP e];exact s
     .show ∀j,j < 3->Cl cc el (if m=n then p else pk m) j;rw[iN e];exact l m (by lia)
  .rintro _ ⟨pk,y5,y6,y7,y8,y9,y10,rfl,l⟩
   rw[Bj]at l ⊢
   exact MQ #[pk,l,rfl])
 exact#[pk,h,e]
end
def XO:Row->Str
 |.Af c _ _=>c
 |_=>""
def ZC:Row->Str
 |.Af _ q _=>q
 |_=>""
def Zy:Row->Bool
 |.Af ..=>true
 |_=>false
def Sg(c:Int)(i:Nat):Bool:=decide (c/((i:Int)+1)%2=1)
def OM(c:Int)(i:Nat)(C:Str)(q:Row×Nat):Bool:=decide (XO q.1=C) && (!Sg c i || decide (c/((q.2:Int)+2)%2=1))
def Mu(c:Int)(C d:Str)(m:Nat)(g:Int->Ex)(q:Row×Nat):Row:=.CS C (ZC q.1) d m (g (c/((q.2:Int)+3)))
def Ca(c:Int)(i:Nat)(C d:Str)(m:Nat)(g:Int->Ex)(hs:List Row):List Row:=(hs.zipIdx.filter (OM c i C)).map (Mu c C d m g)
def C9(c:Int)(i:Nat)(d:Str)(m:Nat)(g:Int->Ex):List Row:=if Sg c i then[.once d m (g (c/3))]else[]
def Bg(dd:Nat->Str)(D:Nat->Str×List Kd×Kd)(c:Int)(G:Nat->Int->Ex)(hs:List Row)(n:Nat):List Row:=(List.range n).flatMap λi=>C9 c i (dd i) (D i).2.1.length (G i)++Ca c i (D i).1 (dd i) (D i).2.1.length (G i) hs
theorem HV(c:Int)(i:Nat)(C d:Str)(m:Nat)(g:Int->Ex)(hs:List Row):(Ca c i C d m g hs).length<=hs.length:=by
 unfold Ca;rw[lM];exact Nat.le_trans (length_filter_le _ _) (by rw[List.length_zipIdx];exact Nat.le_refl _)
theorem Fb(c:Int)(i:Nat)(d:Str)(m:Nat)(g:Int->Ex):(C9 c i d m g).length<=1:=by unfold C9;split<;>simp
theorem HU(dd:Nat->Str)(D:Nat->Str×List Kd×Kd)(c:Int)(G:Nat->Int->Ex)(hs:List Row):∀n,(Bg dd D c G hs n).length<=(1 + hs.length) * n
 |0=>Nat.le_refl _
 | n + 1=>by
   have a:=HU dd D c G hs n;unfold Bg at a ⊢;rw[range_succ (n:=n),flatMap_append,lA,flatMap_singleton,lA];have:=HV c n (D n).1 (dd n) (D n).2.1.length (G n) hs;have:=Fb c n (dd n) (D n).2.1.length (G n);rw[Nat.mul_succ]
   lia
theorem MF(dd:Nat->Str)(D:Nat->Str×List Kd×Kd)(c:Int)(G:Nat->Int->Ex)(hs:List Row)(n:Nat):Bg dd D c G hs (n + 1)=Bg dd D c G hs n++C9 c n (dd n) (D n).2.1.length (G n)++Ca c n (D n).1 (dd n) (D n).2.1.length (G n) hs:=by
 unfold Bg;rw[range_succ (n:=n),flatMap_append,flatMap_singleton,append_assoc]
theorem TJ(c:Int)(i:Nat)(C d:Str)(m:Nat)(g:Int->Ex){hs:List Row}{j:Nat}{h:Row}(e:hs[j]? =some h):Ca c i C d m g (hs.take (j + 1))=Ca c i C d m g (hs.take j)++if OM c i C (h,j)then[Mu c C d m g (h,j)]else[]:=by
 unfold Ca;have hl:(hs.take j).length=j:=by rw[length_take];have:=(List.getElem?_eq_some_iff.mp e).1;lia
 rw[take_add_one,e,Option.toList_some,List.zipIdx_append,hl,filter_append,map_append,Nat.zero_add,List.zipIdx_singleton];cases a:OM c i C (h,j)with
 |true=>rw[iP rfl,List.filter_cons_of_pos a];rfl
 |false=>rw[iN Bool.false_ne_true,List.filter_cons_of_neg (by simp[a])];rfl
theorem V2{n:Nat}(h:n<=3):Ou (.p (.tup [.str "u",.str "v",.str "w"])) (.p (.int n))=some (.p (.tup ((Jl n).map P.str))):=by
 rcases(by lia:n=0\/n=1\/n=2\/n=3)with rfl|rfl|rfl|rfl<;>rfl
abbrev condB:T:=(.and (.A1 Bd {15,1,0} {9}) (.or (.not {13}) (.A1 Bd (.A1 (Aw Du) (.A1 (Aw EB) {0} (.A1 Ad {14} {2,0})) {2,0}) {1,0})))
abbrev Zo:List S:=[(.Dj (.nm 14) DQ (.Ak AD {2}) [(.asg (.nm 15) (.A1 Ae {2} {14})),(.ifs condB [(.asg (.nm 16) (.call 54 [(.A1 (Aw EB) {0} (.A1 Ad {14} {3,0})),{12},{3},{5}])),(.Ce 4 true (EL LK) [(.tup [{"does"},{9},{15,2,0},{8},{12},{16}])])] [])])]
variable{cf:CF}{U:Env}{t u:T}{a b:Bool}
theorem cn(e:(den cf t).b U= .ok a)(e2:(den cf u).b U= .ok b):(den cf (.and t u)).b U= .ok (a && b):=by
 cases a with
 |true=>exact QF e e2
 |false=>exact UU e
theorem fE(e:(den cf t).b U= .ok a)(e2:(den cf u).b U= .ok b):(den cf (.or t u)).b U= .ok (a || b):=by
 cases a with
 |true=>exact QA e
 |false=>exact CV e e2
theorem ck(e:(den cf t).b U= .ok a):(den cf (.not t)).b U= .ok (!a):=by
 cases a with
 |true=>exact H8 e
 |false=>exact dB e
section
variable{k:Nat}{dd:Nat->Str}{o1 o2 o3:Bool}
theorem Th{D:Nat->Str×List Kd×Kd}{n i:Nat}(h:i < n):(An dd D n)[i]? =some (.Ba (dd i) (D i).1 (D i).2.1 (D i).2.2):=by
 unfold An;rw[List.getElem?_map,List.getElem?_range h];rfl
theorem NK{n:Nat}(hn:n<=3){D:Nat->Str×List Kd×Kd}(W:∀i,i < n->(D i).2.1.length<=3)(H:∀i,i < n->Ah (dd i)=true){fs:List Str}(hf:∀x∈fs,DV x=true)(h1:1<=fs.length)(E:fs.length<=100){hs:List Row}(T:∀r∈hs,Zy r=true)(S:hs.length<=20)(c:Int):
 ∃G:Nat->Int->Ex,(∀i w,(G i w).ok)/\cN (k+2) 60 [.p (.int c),.lst o1 ((An dd D n).map Row.p),.lst o2 (hs.map Row.p),.lst o3 (fs.map P.str)]= .ok (.lst true ((Bg dd D c G hs n).map Row.p)):=by
 have F:∀x∈(List.range n).map dd,Ah x=true:=λx y=>by rintro⟨i,hi,rfl⟩:mem_map.mp y;exact H i (mem_range.mp hi)
 have V:∀i,∃g:Int->Ex,∀w,(g w).ok/\cN (k+1) 54 [.p (.int w),.p (.tup ((Jl (D i).2.1.length).map P.str)),.lst false (fs.map P.str),.lst false (((List.range n).map dd).map P.str)]= .ok (.p (g w).p):=λi=>Classical.skolem.mp λw=>expr (k:=k) w (Ku _).2.1 (Ku _).1 hf h1 E F (by simp<;>lia)
 rintro⟨G,I⟩:Classical.skolem.mp V;refine#[G,λi w=>(I i w).1,ce (gF 58 rfl) (Am (dl rfl) (Am (Qo Row.p (An dd D n) (λ_=>true) (λr=>.str (Mv r)) rfl rfl (by simp[An];lia) λr N=>#[_,rfl,rfl,λ_=>?_]) ?_))]
 .unfold An at N;rintro⟨i,_,rfl⟩:mem_map.mp N;exact#[_,#[#[1]],rfl]
 rw[filter_tt,show((An dd D n).map λr=>P.str (Mv r))=((List.range n).map dd).map P.str from by unfold An;rw[map_map,map_map];rfl];refine EK (xs:=Az 0 n) (λi U=>∃y6 y7 y8 y9 y10 v s o m f e,U=[sI c,sL o1 ((An dd D n).map Row.p),sL o2 (hs.map Row.p),sL o3 (fs.map P.str),sL true ((Bg dd D c G hs i).map Row.p),sL true (((List.range n).map dd).map P.str),y6,y7,y8,y9,y10,v,s,o,m,f,e]) (d1 rfl (B0 _)) (by rw[lM,show(An dd D n).length=n from by simp[An]];exact Cd (by lia)) #[_,_,_,_,_,_,_,_,_,_,_,rfl] ?_ ?_
 .rintro i x y _ ⟨y6,y7,y8,y9,y10,v,s,o,m,f,e,rfl⟩
  rintro⟨hi,rfl⟩:BH y;have Z:Ae (.lst false ((An dd D n).map Row.p)) (.p (.int i))=some (.p (Row.Ba (dd i) (D i).1 (D i).2.1 (D i).2.2).p):=AA rfl (by rw[List.getElem?_map,Th hi];rfl);have X:Bd (.p (.int (c/((i:Int)+1)%2))) (.p (.int 1))=some (bC (Sg c i)):=Xe _ _;have lR:=HU dd D c G hs i;have Q:(1+hs.length)*i<=21*3:=Nat.mul_le_mul (by lia) (by lia);have lO:=Fb c i (dd i) (D i).2.1.length (G i);refine#[_,rfl,aG #[Z] rfl (Am (d2 (dt (fz rfl (fz rfl (fz rfl rfl)))) (d1 rfl (Av _)) (by rw[lM];exact V2 (W i hi))) (Am (d2 (d2 (d2 rfl #[AK (i:Int) 1] (Dh c #[by lia,by lia])) rfl (D7 _ #[])) rfl X) ?_))]
  have rest:∀{m f e:Option C},WP ((k + 1)<<<Zo>>>[sI c,sL o1 ((An dd D n).map Row.p),sL o2 (hs.map Row.p),sL o3 (fs.map P.str),sL true ((Bg dd D c G hs i++C9 c i (dd i) (D i).2.1.length (G i)).map Row.p),sL true (((List.range n).map dd).map P.str),sI i,sP (.str "deed"),sS (dd i),sS (D i).1,sP (.tup ((D i).2.1.map Kd.p)),sP (D i).2.2.p,sP (.tup ((Jl (D i).2.1.length).map P.str)),some (bC (Sg c i)),m,f,e])
   (λU=>∃y6 y7 y8 y9 y10 v s o m f e,U=[sI c,sL o1 ((An dd D n).map Row.p),sL o2 (hs.map Row.p),sL o3 (fs.map P.str),sL true ((Bg dd D c G hs (i+1)).map Row.p),sL true (((List.range n).map dd).map P.str),y6,y7,y8,y9,y10,v,s,o,m,f,e]) (λd=>C.lst true ((Bg dd D c G hs n).map Row.p)=d):=by
   intro m f e;refine EK (xs:=Az 0 hs.length) (λj U=>∃m f e,U=[sI c,sL o1 ((An dd D n).map Row.p),sL o2 (hs.map Row.p),sL o3 (fs.map P.str),sL true ((Bg dd D c G hs i++C9 c i (dd i) (D i).2.1.length (G i)++Ca c i (D i).1 (dd i) (D i).2.1.length (G i) (hs.take j)).map Row.p),sL true (((List.range n).map dd).map P.str),sI i,sP (.str "deed"),sS (dd i),sS (D i).1,sP (.tup ((D i).2.1.map Kd.p)),sP (D i).2.2.p,sP (.tup ((Jl (D i).2.1.length).map P.str)),some (bC (Sg c i)),m,f,e]) (d1 rfl (B0 _)) (by rw[lM];exact Cd (by lia)) #[m,f,e,by rw[show Ca c i (D i).1 (dd i) (D i).2.1.length (G i) (hs.take 0)=[]from rfl,append_nil]] ?_ ?_
   .rintro j x y _ ⟨m,f,e,rfl⟩
    rintro⟨O,rfl⟩:BH y;have J:hs[j]? =some hs[j]:=List.getElem?_eq_getElem O;have R:=HV c i (D i).1 (dd i) (D i).2.1.length (G i) (hs.take j);rw[length_take]at R;have st:=TJ c i (D i).1 (dd i) (D i).2.1.length (G i) J;obtain⟨h,Y⟩:∃h,hs[j]=h:=#[_,rfl];have y:=T _ (getElem_mem O);rw[Y]at J st y;cases h with
    |Af C q l=>
      have M:Ae (.lst false (hs.map Row.p)) (.p (.int j))=some (.p (Row.Af C q l).p):=AA rfl (by rw[List.getElem?_map,J];rfl)
      have A:(den (cN (k + 1)) condB).b ([sI c,sL o1 ((An dd D n).map Row.p),sL o2 (hs.map Row.p),sL o3 (fs.map P.str),sL true ((Bg dd D c G hs i++C9 c i (dd i) (D i).2.1.length (G i)++Ca c i (D i).1 (dd i) (D i).2.1.length (G i) (hs.take j)).map Row.p),sL true (((List.range n).map dd).map P.str),sI i,sP (.str "deed"),sS (dd i),sS (D i).1,sP (.tup ((D i).2.1.map Kd.p)),sP (D i).2.2.p,sP (.tup ((Jl (D i).2.1.length).map P.str)),some (bC (Sg c i)),sI j,sP (Row.Af C q l).p,e])= .ok (OM c i (D i).1 (.Af C q l,j)):=
       cn (bb (d2 #[#[1]] rfl dw)) (fE (ck (bb rfl)) (bb (d2 (d2 (d2 rfl #[AK (j:Int) 2] (Dh c #[by lia,by lia])) rfl (D7 _ #[])) rfl (Xe _ _))))
      refine#[_,rfl,Am #[M] ?_];cases B:OM c i (D i).1 (.Af C q l,j)with
      |false=>
        rw[B]at st A;exact Ag A #[_,_,_,by rw[st,iN Bool.false_ne_true,append_nil];rfl]
      |true=>
        rw[B,iP rfl]at st;rw[B]at A;refine wit A (Am (dc (ar (d2 rfl #[AK (j:Int) 3] (Dh c #[by lia,by lia])) (ar rfl (ar rfl (ar rfl rfl)))) (I i _).2) (Jj (ps:=(Bg dd D c G hs i++C9 c i (dd i) (D i).2.1.length (G i)++Ca c i (D i).1 (dd i) (D i).2.1.length (G i) (hs.take j)).map Row.p) (p:=(Mu c (D i).1 (dd i) (D i).2.1.length (G i) (.Af C q l,j)).p) (dt (fz rfl (fz rfl (fz #[#[2]] (fz rfl (fz rfl (fz rfl rfl))))))) (by rw[lM,lA,lA];lia) (Cn #[_,_,_,by rw[st,<-append_assoc,map_append (l₁:=_++_++_)];rfl])))
    |_=>cases y
   .rintro _ ⟨m,f,e,rfl⟩
    rw[Bj,take_length,<-MF];exact Cn #[_,_,_,_,_,_,_,_,_,_,_,rfl]
  cases z:Sg c i with
  |false=>
    have K:C9 c i (dd i) (D i).2.1.length (G i)=[]:=by unfold C9;rw[z,iN Bool.false_ne_true]
    rw[z,K,append_nil]at rest;exact Ag (bb (by rfl)) rest
  |true=>
    have K:C9 c i (dd i) (D i).2.1.length (G i)=[.once (dd i) (D i).2.1.length (G i (c/3))]:=by unfold C9;rw[z,iP rfl]
    rw[z,K]at rest;refine wit (bb (by rfl)) (Jj (ps:=(Bg dd D c G hs i).map Row.p) (p:=(Row.once (dd i) (D i).2.1.length (G i (c/3))).p) (dt (fz rfl (fz rfl (fz rfl (fz (dc (ar #[Dh c #[]] (ar rfl (ar rfl (ar rfl rfl)))) (I i _).2) rfl))))) (by rw[lM];lia) (Cn ?_));rw[map_append (l₁:=Bg dd D c G hs i)]at rest;exact rest
 .rintro _ ⟨y6,y7,y8,y9,y10,v,s,o,m,f,e,rfl⟩
  rw[Bj];exact MQ rfl
end
structure Nm(f:Nat->Str):Prop where
 ok:∀i,i < 3->Ah (f i)=true/\f i∉Hh
 u:∀i j,i < 3->j < 3->f i=f j->i=j
structure Wg(kk cc dd:Nat->Str)(fs:List Str)(ff:Nat->List (Str×List Kd))(el:Nat->List Str)(n:Nat)(D:Nat->Str×List Kd×Kd)(pk:Nat->Nat->Bool)(G:Nat->Int->Ex):Prop where
 nk:Nm kk
 nc:Nm cc
 nd:Nm dd
 f6:Xz fs
 fN:("No":Str)∉fs
 fY:("Yes":Str)∉fs
 fk:∀m,m < 3->1<=(ff m).length/\Fg kk fs m (ff m)
 cg:Cg cc el
 n3:n<=3
 dg:∀i,i < n->Dg kk cc (D i)
 cl:∀a,a < 4->∀j,j < 3->Cl cc el (pk a) j
 gk:∀i w,(G i w).ok
def BW(kk:Nat->Str)(ff:Nat->List (Str×List Kd)):List Row:=(List.range 3).map λm=>Row.kind (kk m) m (ff m)
noncomputable def Bm(kk cc dd:Nat->Str)(ff:Nat->List (Str×List Kd))(el:Nat->List Str)(n:Nat)(D:Nat->Str×List Kd×Kd)(pk:Nat->Nat->Bool)(G:Nat->Int->Ex)(c c':Int)(ask:List Row):List Row:=BW kk ff++Ck cc el++An dd D n++Ac kk cc el c pk 4++Bg dd D c' G (Ac kk cc el c pk 4) n++ask
inductive Wr(kk cc dd:Nat->Str)(ff:Nat->List (Str×List Kd))(el:Nat->List Str)(n:Nat)(D:Nat->Str×List Kd×Kd)(pk:Nat->Nat->Bool)(c:Int):Row->Prop where
 |kind (m:Nat) (h:m < 3):Wr kk cc dd ff el n D pk c (.kind (kk m) m (ff m))
 |cls (j:Nat) (h:j < 3):Wr kk cc dd ff el n D pk c (.cls (cc j) (el j))
 |Ba (i:Nat) (h:i < n):Wr kk cc dd ff el n D pk c (.Ba (dd i) (D i).1 (D i).2.1 (D i).2.2)
 |Af (a j:Nat) (ha:a < 4) (hj:j < 3) (hp:pk a j=true):Wr kk cc dd ff el n D pk c (.Af (cc j) (kn kk a) (Gy (c/((a:Int)+2)) (a%3) (cc j) (el j) (cc 2)))
 |once (i:Nat) (h:i < n) (e:Ex) (he:e.ok):Wr kk cc dd ff el n D pk c (.once (dd i) (D i).2.1.length e)
 |CS (i a j:Nat) (h:i < n) (ha:a < 4) (hj:j < 3) (hp:pk a j=true) (hc:cc j=(D i).1) (e:Ex) (he:e.ok):Wr kk cc dd ff el n D pk c (.CS (D i).1 (kn kk a) (dd i) (D i).2.1.length e)
 |ask (e:Ex) (he:e.ok):Wr kk cc dd ff el n D pk c (.ask e)
section
variable{kk cc dd:Nat->Str}{fs:List Str}{ff:Nat->List (Str×List Kd)}{el:Nat->List Str}{n:Nat}{D:Nat->Str×List Kd×Kd}{pk:Nat->Nat->Bool}{G:Nat->Int->Ex}{c c':Int}{ask rs:List Row}
theorem HD{m:Nat}{r:Row}:r∈Ac kk cc el c pk m↔∃a j,a < m/\j < 3/\pk a j=true/\r=QW kk cc el c a j:=by
 unfold Ac;simp only[mem_flatMap,mem_map,mem_filter,mem_range];exact#[λ⟨a,g,j,⟨f,d⟩,e⟩=>#[a,j,g,f,d,e.symm],λ⟨a,j,g,f,d,e⟩=>#[a,g,j,#[f,d],e.symm]]
theorem Mj{hs:List Row}{r:Row}:r∈Bg dd D c' G hs n↔∃i,i < n/\((Sg c' i=true/\r= .once (dd i) (D i).2.1.length (G i (c' / 3)))\/∃(h:Row) (t:Nat),hs[t]? =some h/\OM c' i (D i).1 (h,t)=true/\r=Mu c' (D i).1 (dd i) (D i).2.1.length (G i) (h,t)):=by
 unfold Bg Ca C9;simp only[mem_flatMap,mem_append,mem_map,mem_filter,mem_range];constructor
 .rintro⟨i,hi,h|⟨⟨h,t⟩,⟨hm,d⟩,rfl⟩⟩
  .refine#[i,hi,.inl ?_];split at h
   .exact#[by assumption,mE h]
   .cases h
  .exact#[i,hi,.inr #[h,t,List.mk_mem_zipIdx_iff_getElem?.mp hm,d,rfl]]
 .rintro⟨i,hi,⟨h,rfl⟩|⟨h,t,hm,d,rfl⟩⟩
  .exact#[i,hi,.inl (by rw[iP h];exact .head _)]
  .exact#[i,hi,.inr #[(h,t),#[List.mk_mem_zipIdx_iff_getElem?.mpr hm,d],rfl]]
theorem Zm(W:Wg kk cc dd fs ff el n D pk G)(d:∀r∈ask,∃e:Ex,e.ok/\r= .ask e){r:Row}(h:r∈Bm kk cc dd ff el n D pk G c c' ask):Wr kk cc dd ff el n D pk c r:=by
 unfold Bm at h;simp only[mem_append]at h;rcases h with((((h|h)|h)|h)|h)|h
 .obtain⟨m,hm,rfl⟩:=mem_map.mp h;exact .kind m (mem_range.mp hm)
 .simp only[Ck,mem_cons,not_mem_nil,or_false]at h;rcases h with rfl|rfl|rfl
  .exact .cls 0 #[]
  .exact .cls 1 #[]
  .exact .cls 2 #[]
 .obtain⟨i,hi,rfl⟩:=mem_map.mp h;exact .Ba i (mem_range.mp hi)
 .obtain⟨a,j,d,k,f,rfl⟩:=HD.mp h;exact .Af a j d k f
 .obtain⟨i,hi,⟨_,rfl⟩|⟨h,t,hm,f,rfl⟩⟩:=Mj.mp h
  .exact .once i hi _ (W.gk i _)
  .obtain⟨a,j,d,k,g,rfl⟩:=HD.mp (mem_of_getElem? hm);rw[OM,bA]at f;exact .CS i a j hi d k g (of_decide_eq_true f.1) _ (W.gk i _)
 .obtain⟨e,he,rfl⟩:=d r h;exact .ask e he
theorem Mm(W:Wg kk cc dd fs ff el n D pk G)(a:Nat):Ah (kn kk a)=true:=by
 unfold kn;split
 .exact(W.nk.ok a (by assumption)).1
 .decide +kernel
theorem bJ(W:Wg kk cc dd fs ff el n D pk G){a b:Nat}(e:a < 4)(d:b < 4)(h:kn kk a=kn kk b):a=b:=by
 unfold kn at h;have w:("whole":Str)∈Hh:=.head _;split at h<;>split at h
 .exact W.nk.u a b (by assumption) (by assumption) h
 .exact absurd (h▸w) (W.nk.ok a (by assumption)).2
 .exact absurd (h▸w) (W.nk.ok b (by assumption)).2
 .lia
theorem XZ(W:Wg kk cc dd fs ff el n D pk G){r:Row}(h:Wr kk cc dd ff el n D pk c r):r.ok:=by
 have nk:∀i,i < 3->Ah (kk i)=true:=λi hi=>(W.nk.ok i hi).1
 have nc:∀i,i < 3->Ah (cc i)=true:=λi hi=>(W.nc.ok i hi).1
 have nn:∀i,i < n->Ah (dd i)=true:=λi hi=>(W.nd.ok i (by have:=W.n3;lia)).1
 have ne:∀j,j < 3->∀x∈el j,Ah x=true:=λj d x k=>by rintro⟨i,hi,rfl⟩:EC W.cg d k;exact nc i (by lia)
 have dc:∀i,i < n->Ah (D i).1=true:=λi hi=>by rintro⟨j,d,e⟩:(W.dg i hi).c;rw[e];exact nc j d
 cases h with
 |kind m h=>
   rintro⟨h1,h2,s,o⟩:W.fk m h
   exact⟨nk m h,by lia,h1,by lia,λf hf=>⟨by
    rintro⟨j,d⟩:mem_iff_getElem?.mp hf
    exact W.f6.2.1 _ (mem_of_getElem? (s j f d)),(o f hf).1,λx k=>PL nk ((o f hf).2 x k)⟩⟩
 |cls j h=>
   refine#[nc j h,?_,ne j h];rcases(by lia:j=0\/j=1\/j=2)with rfl|rfl|rfl
   .rw[W.cg.e0];exact Nat.zero_le _
   .have:=W.cg.l1;lia
   .have:=W.cg.l2;lia
 |Ba i h=>exact#[nn i h,dc i h,(W.dg i h).l,λx k=>PL nk ((W.dg i h).g x (by simp[k])),PL nk ((W.dg i h).g _ (by simp))]
 |Af a j q d p=>
   refine#[nc j d,Mm W a,by simp[Gy];lia,λe he=>?_];rintro⟨i,_,h⟩:mem_map.mp he;unfold nf at h;split at h
   .cases h
   .split at h
    .cases h;exact nc 2 #[]
    .cases h;exact nc j d
 |once i h e he=>exact#[nn i h,he]
 |CS i a j h q d p v e he=>exact#[dc i h,Mm W a,nn i h,he]
 |ask e he=>exact he
abbrev kK(a:Str):List Str:=["kind",a]
abbrev fK(a:Str):List Str:=["form",a]
abbrev cK(a:Str):List Str:=["class",a]
abbrev uK(a:Str):List Str:=["function",a]
abbrev hK(c q:Str):List Str:=["house",c,q]
abbrev oK(d:Str):List Str:=["once",d]
abbrev sK(c q d:Str):List Str:=["does",c,q,d]
def kd(y:List Str):Str:=y.headD ""
theorem Mh{a b:List (List Str)}(A B:List Str)(i:a.Nodup)(g:b.Nodup)(h1:∀x∈a,kd x∈A)(h2:∀x∈b,kd x∈B)(h:(A.all λx=>!B.contains x)=true:=by decide +kernel):(a++b).Nodup:=by
 refine nodup_append.mpr #[i,g,λx f y d e=>?_];have:=all_eq_true.mp h _ (h1 x f);rw[e,show B.contains (kd y)=true from by simpa using h2 y d]at this;cases this
theorem KY{β:Type}{f:Nat->List β}{n:Nat}(h1:∀a,a < n->(f a).Nodup)(h2:∀a b,a < n->b < n->∀x∈f a,x∈f b->a=b):((List.range n).flatMap f).Nodup:=
 List.pairwise_flatMap.mpr ⟨λa d=>h1 a (mem_range.mp d),List.pairwise_lt_range.imp_of_mem λ{a b} d i k x h y g e=>by
  have:=h2 a b (mem_range.mp d) (mem_range.mp i) x h (e▸g);lia⟩
theorem Mi{β:Type}{f:Nat->β}{n:Nat}(h:∀a b,a < n->b < n->f a=f b->a=b):((List.range n).map f).Nodup:=
 pairwise_map.mpr (List.pairwise_lt_range.imp_of_mem λ{a b} i d g e=>by have:=h a b (mem_range.mp i) (mem_range.mp d) e;lia)
def GH(r:Row):List Str:=hK (XO r) (ZC r)
theorem O3{m:Nat}:(Ac kk cc el c pk m).flatMap told=(Ac kk cc el c pk m).map GH:=by
 have:∀l:List Row,(∀r∈l,Zy r=true)->l.flatMap told=l.map GH:=by
  intro l
  induction l with
  |nil=>intro _;rfl
  |cons r l d=>
    intro h;rw[flatMap_cons,map_cons,d λx e=>h x (.tail _ e)];have:=h r (.head _);cases r with
    |Af a b l=>rfl
    |_=>cases this
 exact this _ λr f=>by rintro⟨a,j,_,_,_,rfl⟩:HD.mp f;rfl
theorem Zk(W:Wg kk cc dd fs ff el n D pk G):((Ac kk cc el c pk 4).map GH).Nodup:=by
 unfold Ac;rw[map_flatMap];refine KY (λa f=>?_) λa b f m x h g=>?_
 .rw[map_map];refine pairwise_map.mpr (List.Pairwise.filter _ (List.pairwise_lt_range.imp_of_mem λ{i j} hi k l e=>?_));have e:hK (cc i) (kn kk a)=hK (cc j) (kn kk a):=e;have:=W.nc.u i j (mem_range.mp hi) (mem_range.mp k) (by injection e with _ e;injection e)
  lia
 .obtain⟨r,d,rfl⟩:=mem_map.mp h;rintro⟨i,_,rfl⟩:mem_map.mp d;rintro⟨r,d,e⟩:mem_map.mp g;rintro⟨j,_,rfl⟩:mem_map.mp d;have e:hK (cc j) (kn kk b)=hK (cc i) (kn kk a):=e;exact(bJ W m f (by injection e with _ e;injection e with _ e;injection e)).symm
theorem bG(W:Wg kk cc dd fs ff el n D pk G):((Bg dd D c' G (Ac kk cc el c pk 4) n).flatMap told).Nodup:=by
 have k:=W.n3;unfold Bg;rw[List.flatMap_assoc]
 have k1:∀i,((C9 c' i (dd i) (D i).2.1.length (G i)).flatMap told).Nodup/\∀x∈(C9 c' i (dd i) (D i).2.1.length (G i)).flatMap told,x=oK (dd i):=λi=>by
  unfold C9;split
  .exact#[by simp[told],λx d=>by simpa[told]using d]
  .exact#[by simp,λx d=>by simp at d]
 have k2:∀i,(Ca c' i (D i).1 (dd i) (D i).2.1.length (G i) (Ac kk cc el c pk 4)).flatMap told=(((Ac kk cc el c pk 4).zipIdx).filter (OM c' i (D i).1)).map λq=>sK (D i).1 (ZC q.1) (dd i):=λi=>by
  unfold Ca;rw[flatMap_map];exact List.map_eq_flatMap.symm
 refine KY (λi hi=>?_) λi j hi l x d g=>?_
 .rw [flatMap_append];refine Mh ["once"] ["does"] (k1 i).1 ?_ (λx d=>by rw[(k1 i).2 x d];exact .head _) λx d=>?_
  .rw[k2];refine pairwise_map.mpr (List.Pairwise.imp_of_mem (R:=λq r=>GH q.1≠GH r.1) (λ{q r} hq f h e=>h ?_) (List.Pairwise.filter _ ?_))
   .have hq:=(mem_filter.mp hq).2;have f:=(mem_filter.mp f).2;rw[OM,bA]at hq f;have e1:=of_decide_eq_true hq.1;have e2:=of_decide_eq_true f.1;unfold GH;rw[e1,e2,show ZC q.1=ZC r.1 from by injection e with _ e;injection e with _ e;injection e]
   .have:=Zk (c:=c) W;rw[<-List.zipIdx_map_fst 0 (Ac kk cc el c pk 4),map_map]at this;exact pairwise_map.mp this
  .rw[k2]at d;rintro⟨q,_,rfl⟩:mem_map.mp d;exact .head _
 .have key:∀i x,x∈(C9 c' i (dd i) (D i).2.1.length (G i)++Ca c' i (D i).1 (dd i) (D i).2.1.length (G i) (Ac kk cc el c pk 4)).flatMap told->x.getLast? =some (dd i):=λi x d=>by
   rw[flatMap_append]at d;rcases mZ d with d|d
   .rw[(k1 i).2 x d];rfl
   .rw[k2]at d;rintro⟨q,_,rfl⟩:mem_map.mp d;rfl
  exact W.nd.u i j (by lia) (by lia) (Option.some.inj ((key i x d).symm.trans (key j x g)))
end
theorem one_le{p:Nat->Bool}(h:∀i j,i < 3->j < 3->p i=true->p j=true->i=j):((List.range 3).filter p).length<=1:=by
 show(([0,1,2]:List Nat).filter p).length<=1;have a:=h 0 1 #[] #[];have b:=h 0 2 #[] #[];have c:=h 1 2 #[] #[];cases h0:p 0<;>cases h1:p 1<;>cases h2:p 2<;>simp[h0,h1,h2]at a b c ⊢
theorem P1:∀x∈Ds,(kd x="form"->x.getLastD ""="No"\/x.getLastD ""="Yes")/\(kd x≠"form"->x.getLastD ""∈Hh)/\kd x∈(["kind","form","function"]:List Str):=by decide +kernel
theorem LU{n:Nat}(h:n<=3):(Jl n).length=n:=by unfold Jl;rw[length_take];exact Nat.min_eq_left h
section
variable{kk cc dd:Nat->Str}{fs:List Str}{ff:Nat->List (Str×List Kd)}{el:Nat->List Str}{n:Nat}{D:Nat->Str×List Kd×Kd}{pk:Nat->Nat->Bool}{G:Nat->Int->Ex}{c c':Int}{ask rs:List Row}
theorem dr(m:Nat):Ac kk cc el c pk (m + 1)=Ac kk cc el c pk m++((List.range 3).filter (pk m)).map (QW kk cc el c m):=by
 unfold Ac;rw[range_succ (n:=m),flatMap_append,flatMap_singleton]
theorem Q5:∀m,(Ac kk cc el c pk m).length<=3 * m
 |0=>Nat.le_refl _
 | m + 1=>by
   have:=Q5 m;have h:((List.range 3).filter (pk m)).length<=(List.range 3).length:=length_filter_le _ _;rw[length_range]at h;rw[dr,lA,lM]
   lia
theorem UJ(W:Wg kk cc dd fs ff el n D pk G)(C:Str):∀m,((Ac kk cc el c pk m).filter λr=>decide (XO r=C)).length<=m
 |0=>Nat.le_refl _
 | m + 1=>by
   have:=UJ W C m;rw[dr,filter_append,lA,List.filter_map,lM,List.filter_filter]
   have:=one_le (p:=λj=>decide (XO (QW kk cc el c m j)=C) && pk m j) λi j hi d h1 h2=>by
    rw[bA]at h1 h2;exact W.nc.u i j hi d ((of_decide_eq_true h1.1).trans (of_decide_eq_true h2.1).symm)
   simp only[Function.comp_def]
   lia
theorem QG(W:Wg kk cc dd fs ff el n D pk G):∀m,(Bg dd D c' G (Ac kk cc el c pk 4) m).length<=5 * m
 |0=>Nat.le_refl _
 | m + 1=>by
   have:=QG W m;have h1:=Fb c' m (dd m) (D m).2.1.length (G m);have h2:=UJ (c:=c) W (D m).1 4
   have d:(Ca c' m (D m).1 (dd m) (D m).2.1.length (G m) (Ac kk cc el c pk 4)).length<=((Ac kk cc el c pk 4).filter λr=>decide (XO r=(D m).1)).length:=by
    unfold Ca
    conv=>rhs;rw[<-List.zipIdx_map_fst 0 (Ac kk cc el c pk 4),List.filter_map,lM]
    rw[lM,<-List.countP_eq_length_filter,<-List.countP_eq_length_filter];exact List.countP_mono_left λq _ h=>by rw[OM,bA]at h;exact h.1
   rw[MF,lA,lA]
   lia
theorem aH(W:Wg kk cc dd fs ff el n D pk G)(p:∀r∈ask,∃e:Ex,e.ok/\r= .ask e):(Ds++(Bm kk cc dd ff el n D pk G c c' ask).flatMap told).Nodup:=by
 have J:=W.n3
 have fi:∀m,m < 3->∀f∈ff m,∃j,j < 2/\fs[2 * m + j]? =some f.1:=λm hm f hf=>by
  rintro⟨j,s⟩:mem_iff_getElem?.mp hf;have:=(List.getElem?_eq_some_iff.mp s).1;exact#[j,by have:=(W.fk m hm).2.1;lia,(W.fk m hm).2.2.1 j f s]
 have inj:∀i j (x:Str),fs[i]? =some x->fs[j]? =some x->i=j:=λi j x h1 h2=>(List.getElem?_inj (List.getElem?_eq_some_iff.mp h1).1 W.f6.2.2).mp (h1.trans h2.symm)
 have tk:∀(m:Nat) (x:List Str),x∈told (Row.kind (kk m) m (ff m))↔x=kK (kk m)\/∃f∈ff m,x=fK f.1:=λm x=>by simp[told,eq_comm]
 have B :((BW kk ff).flatMap told).Nodup:=by
  unfold BW;rw[flatMap_map];refine KY (λm hm=>?_) λa b A z x d l=>?_
  .refine nodup_cons.mpr #[λh=>?_,?_]
   .obtain⟨f,_,e⟩:=mem_map.mp h;exact absurd (List.cons.inj e).1 (by decide +kernel)
   .have hl:=(W.fk m hm).2.1;have o:=(W.fk m hm).2.2.1;rcases e:ff m with _|⟨a,_|⟨b,_|⟨_,_⟩⟩⟩
    .simp
    .simp
    .rw[e]at o;refine nodup_cons.mpr #[λh=>?_,by simp];have h:=mE h;have h:a.1=b.1:=by injection h with _ h;injection h
     have:=inj _ _ _ (o 0 a rfl) (h▸o 1 b rfl)
     lia
    .rw[e]at hl;simp at hl
  .rcases(tk a x).mp d with rfl|⟨f,hf,rfl⟩<;>rcases(tk b _).mp l with e|⟨g,I,e⟩
   .exact W.nk.u a b A z (by injection e with _ e;injection e)
   .exact absurd (List.cons.inj e).1 (by decide +kernel)
   .exact absurd (List.cons.inj e).1 (by decide +kernel)
   .obtain⟨i,hi,e1⟩:=fi a A f hf;rintro⟨j,s,e2⟩:fi b z g I;rw[show g.1=f.1 from by injection e with _ e;injection e with e;exact e.symm]at e2;have:=inj _ _ _ e1 e2
    lia
 have k:∀x∈(BW kk ff).flatMap told,(∃m,m < 3/\x=kK (kk m))\/∃f∈fs,x=fK f:=λx d=>by
  unfold BW at d;rw[flatMap_map]at d;rintro⟨m,hm,d⟩:mem_flatMap.mp d;have hm:=mem_range.mp hm;rcases(tk m x).mp d with rfl|⟨f,hf,rfl⟩
  .exact .inl #[m,hm,rfl]
  .obtain⟨j,_,e⟩:=fi m hm f hf;exact .inr #[f.1,mem_of_getElem? e,rfl]
 have H:(Ds++(BW kk ff).flatMap told).Nodup:=by
  refine nodup_append.mpr #[by decide +kernel,B,λx d y l e=>?_];subst e;rintro⟨o1,o2,_⟩:P1 x d;rcases k x l with⟨m,hm,rfl⟩|⟨f,hf,rfl⟩
  .exact(W.nk.ok m hm).2 (o2 (show("kind":Str)≠"form" by decide +kernel))
  .rcases o1 rfl with e|e
   .exact W.fN ((show f="No" from e)▸hf)
   .exact W.fY ((show f="Yes" from e)▸hf)
 have s1:∀x∈Ds++(BW kk ff).flatMap told,kd x∈(["kind","form","function"]:List Str):=λx d=>by
  rcases mZ d with d|d
  .exact(P1 x d).2.2
  .rcases k x d with⟨m,hm,rfl⟩|⟨f,hf,rfl⟩
   .exact .head _
   .exact .tail _ (.head _)
 have tC:(Ck cc el).flatMap told=(List.range 3).map λj=>cK (cc j):=rfl
 have F:(Ds++(BW kk ff).flatMap told++(Ck cc el).flatMap told).Nodup:=by
  rw[tC]
  exact Mh ["kind","form","function"] ["class"] H (Mi λa b p w e=>W.nc.u a b p w (by injection e with _ e;injection e)) s1 λx d=>by
   rintro⟨j,_,rfl⟩:mem_map.mp d;exact .head _
 have v:(An dd D n).flatMap told=(List.range n).map λi=>uK (dd i):=by
  unfold An;rw[flatMap_map];exact List.map_eq_flatMap.symm
 have n3:(Ds++(BW kk ff).flatMap told++(Ck cc el).flatMap told++(An dd D n).flatMap told).Nodup:=by
  rw[v];refine nodup_append.mpr #[F,Mi λa b p w e=>W.nd.u a b (by lia) (by lia) (by injection e with _ e;injection e),λx d y l e=>?_];subst e;rintro⟨i,hi,rfl⟩:mem_map.mp l;have hi:=mem_range.mp hi;rcases mZ d with d|d
  .rcases mZ d with d|d
   .exact(W.nd.ok i (by lia)).2 ((P1 _ d).2.1 (show("function":Str)≠"form" by decide +kernel))
   .rcases k _ d with⟨m,hm,e⟩|⟨f,hf,e⟩
    .exact absurd (List.cons.inj e).1 (by decide +kernel)
    .exact absurd (List.cons.inj e).1 (by decide +kernel)
  .rw[tC]at d;rintro⟨j,_,e⟩:mem_map.mp d;exact absurd (List.cons.inj e).1 (by decide +kernel)
 have s3:∀x∈Ds++(BW kk ff).flatMap told++(Ck cc el).flatMap told++(An dd D n).flatMap told,kd x∈(["kind","form","function","class"]:List Str):=λx d=>by
  rw[tC,v]at d;rcases mZ d with d|d
  .rcases mZ d with d|d
   .exact List.mem_append_left [("class":Str)] (s1 x d)
   .obtain⟨j,_,rfl⟩:=mem_map.mp d;exact .tail _ (.tail _ (.tail _ (.head _)))
  .obtain⟨j,_,rfl⟩:=mem_map.mp d;exact .tail _ (.tail _ (.head _))
 have E:(Ds++(BW kk ff).flatMap told++(Ck cc el).flatMap told++(An dd D n).flatMap told++(Ac kk cc el c pk 4).flatMap told).Nodup:=by
  rw[O3]
  exact Mh ["kind","form","function","class"] ["house"] n3 (Zk W) s3 λx d=>by
   rintro⟨j,_,rfl⟩:mem_map.mp d;exact .head _
 have C:(Ds++(BW kk ff).flatMap told++(Ck cc el).flatMap told++(An dd D n).flatMap told++(Ac kk cc el c pk 4).flatMap told++(Bg dd D c' G (Ac kk cc el c pk 4) n).flatMap told).Nodup:=by
  refine Mh ["kind","form","function","class","house"] ["once","does"] E (bG W) (λx d=>?_) λx d=>?_
  .rw[O3]at d;rcases mZ d with d|d
   .exact List.mem_append_left [("house":Str)] (s3 x d)
   .obtain⟨j,_,rfl⟩:=mem_map.mp d;exact .tail _ (.tail _ (.tail _ (.tail _ (.head _))))
  .obtain⟨r,q,d⟩:=mem_flatMap.mp d;rintro⟨i,hi,⟨_,rfl⟩|⟨h,t,hm,o,rfl⟩⟩:Mj.mp q
   .rw[mE d];exact .head _
   .rw[mE d];exact .tail _ (.head _)
 have tA:ask.flatMap told=[]:=List.flatMap_eq_nil_iff.mpr λr q=>by rintro⟨e,_,rfl⟩:p r q;rfl
 unfold Bm;simp only[flatMap_append,tA,append_nil];simpa only[append_assoc]using C
end
section
variable{kk cc dd:Nat->Str}{fs:List Str}{ff:Nat->List (Str×List Kd)}{el:Nat->List Str}{n:Nat}{D:Nat->Str×List Kd×Kd}{pk:Nat->Nat->Bool}{G:Nat->Int->Ex}{c c':Int}{ask rs:List Row}
theorem X9{w:Nat}{e C:Str}{g f:List Str}(i: .cls C f∈rs)(he:e∈f):cG rs (nf w e g d) (nf w C f d):=by
 unfold nf
 by_cases h:w=2\/(w=3/\g=[])
 .rw[iP h];exact .inl rfl
 .rw[iN h,iN (c:=w=2\/(w=3/\f=[])) λz=>z.elim (λz=>h (.inl z)) λz=>by rw[z.2]at he;cases he]
  by_cases h1:w=1
  .rw[iP h1,iP h1];exact .inr (.inl rfl)
  .rw[iN h1,iN h1];exact .inr (.inr #[e,C,f,rfl,rfl,i,he])
def aT(cc:Nat->Str)(x:Str):Nat:=if x=cc 0 then 0 else if x=cc 1 then 1 else 2
theorem Ul(h:Nm cc){i:Nat}(hi:i < 3):aT cc (cc i)=i:=by
 unfold aT;rcases(by lia:i=0\/i=1\/i=2)with rfl|rfl|rfl
 .rw[iP rfl]
 .rw[iN λe=>by have:=h.u 1 0 #[] #[] e;lia,iP rfl]
 .rw[iN λe=>by have:=h.u 2 0 #[] #[] e;lia,iN λe=>by have:=h.u 2 1 #[] #[] e;lia]
theorem Yb(W:Wg kk cc dd fs ff el n D pk G)(o:∀r∈ask,∃e:Ex,e.ok/\r= .ask e)(hl:ask.length<=1)(q:rs.Perm (Bm kk cc dd ff el n D pk G c c' ask)):Wf (aT cc) rs/\K3 rs kk:=by
 have O:=W.n3;have mem:∀{r},r∈Bm kk cc dd ff el n D pk G c c' ask->r∈rs:=λh=>q.mem_iff.mpr h
 have wr:∀r,r∈rs->Wr kk cc dd ff el n D pk c r:=λr h=>Zm W o (q.mem_iff.mp h)
 have E:∀m,m < 3->.kind (kk m) m (ff m)∈rs:=λm h=>mem (by unfold Bm BW;simp only[mem_append,mem_map,mem_range];exact .inl (.inl (.inl (.inl (.inl #[m,h,rfl])))))
 have s:∀j,j < 3->.cls (cc j) (el j)∈rs:=λj h=>mem (by
  unfold Bm;simp only[mem_append];refine .inl (.inl (.inl (.inl (.inr ?_))));rcases(by lia:j=0\/j=1\/j=2)with rfl|rfl|rfl
  .exact .head _
  .exact .tail _ (.head _)
  .exact .tail _ (.tail _ (.head _)))
 have H:∀i,i < n->.Ba (dd i) (D i).1 (D i).2.1 (D i).2.2∈rs:=λi h=>mem (by unfold Bm An;simp only[mem_append,mem_map,mem_range];exact .inl (.inl (.inl (.inr #[i,h,rfl]))))
 have F:∀a j,a < 4->j < 3->pk a j=true->QW kk cc el c a j∈rs:=λa j h1 h2 M=>mem (by unfold Bm;simp only[mem_append];exact .inl (.inl (.inr (HD.mpr #[a,j,h1,h2,M,rfl]))))
 have I:∀{r},r∈Bg dd D c' G (Ac kk cc el c pk 4) n->r∈rs:=λh=>mem (by unfold Bm;simp only[mem_append];exact .inl (.inr h))
 have hK:∀i,i < 3->∃fs,.kind (kk i) i fs∈rs:=λi h=>#[_,E i h]
 have A:∀{x l},Row.cls x l∈rs->∃j,j < 3/\x=cc j/\l=el j:=λ{x l} h=>by
  obtain⟨r,e⟩:∃r,r=Row.cls x l:=#[_,rfl];have w:=wr r (e▸h);cases w with
  |cls j d=>injection e with e1 e2;exact#[j,d,e1.symm,e2.symm]
  |_=>cases e
 have v:∀{x y ks r},Row.Ba x y ks r∈rs->∃i,i < n/\x=dd i/\y=(D i).1:=λ{x y ks r} h=>by
  obtain⟨r',e⟩:∃r',r'=Row.Ba x y ks r:=#[_,rfl];have w:=wr r' (e▸h);cases w with
  |Ba i hi=>injection e with e1 e2;exact#[i,hi,e1.symm,e2.symm]
  |_=>cases e
 have one:∀i,i < n->∀a j,a < 4->j < 3->pk a j=true->cc j=(D i).1->(∃m e,.once (dd i) m e∈rs)\/∃m e,.CS (cc j) (kn kk a) (dd i) m e∈rs:=λi hi a j o d k C=>by
  cases J:Sg c' i with
  |true=>exact .inl #[_,_,I (Mj.mpr #[i,hi,.inl #[J,rfl]])]
  |false=>
    rintro⟨t,K⟩:mem_iff_getElem?.mp (HD (c:=c).mpr #[a,j,o,d,k,rfl]);refine .inr #[(D i).2.1.length,G i (c'/((t:Int)+3)),?_];rw[C];exact I (Mj.mpr #[i,hi,.inr #[_,t,K,by unfold OM;rw[J,dZ (show XO (QW kk cc el c a j)=(D i).1 from C)];rfl,rfl]])
 have len:rs.length<=40:=by
  rw[q.length_eq];have:=Q5 (kk:=kk) (cc:=cc) (el:=el) (pk:=pk) (c:=c) 4;have:=QG (c:=c) (c':=c') W n;unfold Bm BW An;simp only[lA,lM,length_range];have:(Ck cc el).length=3:=rfl
  lia
 refine#[#[λr h=>XZ W (wr r h),len,((q.flatMap_right told).append_left Ds).nodup_iff.mpr (aH W o),λx l h e he=>?_,λr h=>?_],#[λx m f h=>?_,λm h=>#[_,E m h]]]
 .obtain⟨j,d,rfl,rfl⟩:=A h;rintro⟨i,hi,rfl⟩:EC W.cg d he;exact#[by rw[Ul W.nc d,Ul W.nc (by lia)];exact hi,_,s i (by lia)]
 .cases wr r h with
  |kind m hm=>exact λf hf x B=>UC hK (((W.fk m hm).2.2.2 f hf).2 x B)
  |cls j d=>trivial
  |Ba i hi=>
    rintro⟨j,d,e⟩:(W.dg i hi).c;exact#[#[_,e▸s j d],λx B=>UC hK ((W.dg i hi).g x B),(W.dg i hi).z]
  |Af a j o d k=>
    refine#[#[_,s j d,λe he=>?_],?_,λx B=>?_,λx ks r hd=>?_]
    .obtain⟨i,hi,rfl⟩:=EC W.cg d he;refine#[_,F a i o (by lia) (W.cl a o j d k i (by lia) he),λp q=>?_];unfold Gy at q;rw[List.zip_map']at q;rintro⟨t,_,rfl⟩:mem_map.mp q;exact X9 (s j d) he
    .have l:(Gy (c/((a:Int)+2)) (a%3) (cc j) (el j) (cc 2)).length=a%3:=by simp[Gy]
     rw[l];unfold kn;split
     .rw[Nat.mod_eq_of_lt (by assumption)];exact#[_,mR (E a (by assumption))]
     .rw[show a=3 by lia];exact#[[],.head _]
    .obtain⟨i,_,h⟩:=mem_map.mp B;unfold nf at h;split at h
     .cases h
     .split at h
      .cases h;exact#[_,s 2 #[]]
      .cases h;exact#[_,s j d]
    .obtain⟨i,hi,rfl,e⟩:=v hd;exact one i hi a j o d k e
  |once i hi e he=>exact#[_,_,_,H i hi,LU (W.dg i hi).l]
  |CS i a j hi o d k C e he=>
    exact#[#[_,C▸(show Row.Af (cc j) (kn kk a) (Gy (c/((a:Int)+2)) (a%3) (cc j) (el j) (cc 2))∈rs from F a j o d k)],_,_,H i hi,LU (W.dg i hi).l]
  |ask e he=>trivial
 .obtain⟨r,e⟩:∃r,r=Row.kind x m f:=#[_,rfl];have w:=wr r (e▸h);cases w with
  |kind N hm=>injection e with e1 e2;subst e2;exact#[hm,e1.symm]
  |_=>cases e
end
theorem add_r{a b:List Row}{o o':Bool}(h:a.length+b.length<=1000):Ad (.lst o (a.map Row.p)) (.lst o' (b.map Row.p))=some (.lst true ((a++b).map Row.p)):=(add_l (by rw[lA,lM,lM];lia)).trans (by rw[map_append (l₁:=a)])
theorem JO{f:Nat->Str}{g:Nat->Nat}(h:∀i j,i < 9->j < 9->f i=f j->i=j)(ok:∀i,i < 9->Ah (f i)=true/\f i∉Hh)(c:∀i,i < 3->g i < 9)(hi:∀i j,i < 3->j < 3->g i=g j->i=j):Nm λi=>f (g i):=
 #[λi d=>ok _ (c i d),λi j h1 h2 e=>hi i j h1 h2 (h _ _ (c i h1) (c j h2) e)]
section
variable{k:Nat}{ns:List Int}
theorem Y5:∃(rs:List Row) (rk:Str->Nat) (kk:Nat->Str),cN (k + 12) 62 [.lst false (ns.map P.int)]= .ok (.lst true (rs.map Row.p))/\Wf rk rs/\K3 rs kk:=by
 have q:∀i:Nat,i<=100->∃c:Int,cN (k + 11) 50 [.lst false (ns.map P.int),.p (.int i)]= .ok (.p (.int c)):=λi hi=>by
  rintro⟨c,_,e⟩:mixed (k:=k+10) (o:=false) ns i hi;exact#[c,e]
 rintro⟨c0,m0⟩:q 0 #[];rintro⟨c1,Y⟩:q 1 #[];rintro⟨c2,X⟩:q 2 #[];rintro⟨c3,V⟩:q 3 #[];rintro⟨c4,T⟩:q 4 #[];rintro⟨d,S⟩:q 5 #[];rintro⟨c6,Q⟩:q 6 #[];rintro⟨s,O⟩:q 7 #[];rintro⟨c8,N⟩:q 8 #[];rintro⟨ws,⟨w9,wn,K,M⟩,eN⟩:names (k:=k+10) c1;obtain⟨f,hf⟩:∃f:Nat->Str,∀i,i < 9->ws[i]? =some (f i):=#[λi=>ws.getD i "",λi hi=>by show ws[i]? =some (ws.getD i "");rw[List.getD_eq_getElem?_getD,List.getElem?_eq_getElem (by lia)];rfl]
 have ew:ws=[f 0,f 1,f 2,f 3,f 4,f 5,f 6,f 7,f 8]:=ext_getElem? λi=>by
  by_cases h:i < 9
  .rw[hf i h];rcases(by lia:i=0\/i=1\/i=2\/i=3\/i=4\/i=5\/i=6\/i=7\/i=8)with rfl|rfl|rfl|rfl|rfl|rfl|rfl|rfl|rfl<;>rfl
  .rw[List.getElem?_eq_none (by lia),List.getElem?_eq_none (by simp;lia)]
 have y:∀i j,i < 9->j < 9->f i=f j->i=j:=λi j hi hj e=>(List.getElem?_inj (by lia) K).mp ((hf i hi).trans (e▸(hf j hj).symm))
 have A:∀i,i < 9->Ah (f i)=true/\f i∉Hh:=λi hi=>#[wn _ (mem_of_getElem? (hf i hi)),λh=>M _ h (mem_of_getElem? (hf i hi))]
 have nk:Nm f:=JO (g:=id) y A (λi h=>Nat.lt_of_lt_of_le h #[]) λi j _ _ e=>e
 subst ew;rintro⟨fs,⟨f6,fN,fY⟩,eF⟩:Ls (k:=k+10) c2
 have rest:∀{cc dd:Nat->Str} {y6 y7 y8 y9 y10:Option C},Nm cc->Nm dd->WP ((k + 11)<<<(dN.drop 6)>>>[sL false (ns.map P.int),sI c0,sL true ([f 0,f 1,f 2,f 3,f 4,f 5,f 6,f 7,f 8].map P.str),some (kL true f),some (kL true cc),some (kL true dd),y6,y7,y8,y9,y10]) (λ_=>False) (λz=>∃(rs:List Row) (rk:Str->Nat) (kk:Nat->Str),z= .lst true (rs.map Row.p)/\Wf rk rs/\K3 rs kk):=by
  intro cc dd y6 y7 y8 y9 y10 nc nd;rintro⟨el,w,eC⟩:LI (k:=k+10) (cc:=cc) (o:=false) c3;rintro⟨n,D,⟨n1,n3,dg⟩,eD⟩:NF (k:=k+8) (kk:=f) (cc:=cc) (dd:=dd) (o1:=false) (o2:=false) (o3:=false) c4;rintro⟨pk,I,eH⟩:Ll (k:=k+9) (kk:=f) (o1:=false) (o2:=false) (o3:=false) w nc.u d;rintro⟨ff,H,eK⟩:Nl (k:=k+8) (kk:=f) (o:=false) (o':=false) c6 (fs:=fs) f6.1;have lh:=Q5 (kk:=f) (cc:=cc) (el:=el) (pk:=pk) (c:=d) 4;rintro⟨G,hG,eB⟩:NK (k:=k+9) (dd:=dd) (o1:=false) (o2:=false) (o3:=false) n3 (λi hi=>(dg i hi).l) (λi hi=>(nd.ok i (by lia)).1) f6.2.1 (by rw[f6.1];decide) (by rw[f6.1];decide) (hs:=Ac f cc el d pk 4) (λr v=>by rintro⟨a,j,_,_,_,rfl⟩:HD.mp v;rfl) (by lia) s;have W:Wg f cc dd fs ff el n D pk G:=#[nk,nc,nd,f6,fN,fY,H,w,n3,dg,I,hG];have lb:=QG (c:=d) (c':=s) W n;have lk:(BW f ff).length=3:=by simp[BW]
  have lc:(Ck cc el).length=3:=rfl;have ld:(An dd D n).length=n:=by simp[An]
  have last:∀{y6 y7 y8 y9 y5:Option C} (ask:List Row),(∀r∈ask,∃e:Ex,e.ok/\r= .ask e)->ask.length<=1->WP ((k + 11)<<<[(.ret (.call 61 [{10},(.call 50 [{0},{8,0}])]))]>>>[sL false (ns.map P.int),sI c0,sL true ([f 0,f 1,f 2,f 3,f 4,f 5,f 6,f 7,f 8].map P.str),some (kL true f),some (kL true cc),y5,y6,y7,y8,y9,sL true ((Bm f cc dd ff el n D pk G d s ask).map Row.p)]) (λ_=>False) (λz=>∃(rs:List Row) (rk:Str->Nat) (kk:Nat->Str),z= .lst true (rs.map Row.p)/\Wf rk rs/\K3 rs kk):=λ{y6 y7 y8 y9 y5} ask ha hl=>by
   rintro⟨rs,Z,eT⟩:turned (k:=k+10) (o1:=false) c8 (rows:=Bm f cc dd ff el n D pk G d s ask) (by unfold Bm;simp only[lA];lia);rintro⟨E,B⟩:Yb W ha hl Z;exact Ax (ED rfl (ED rfl rfl N) eT) #[rs,_,_,rfl,E,B]
  refine Am (ED (ED rfl rfl X) rfl eF) (Am (ED (ED rfl rfl V) rfl eC) (Am (dc (ar (ED rfl rfl T) (ar rfl (ar rfl (ar rfl rfl)))) eD) (Am (dc (ar (ED rfl rfl S) (ar rfl (ar rfl (ar rfl rfl)))) eH) (Am (d2 (d2 (d2 (dc (ar (ED rfl rfl Q) (ar rfl (ar rfl rfl))) eK) rfl (add_r (a:=BW f ff) (b:=Ck cc el) (by lia))) rfl (add_r (b:=An dd D n) (by rw[lA];lia))) rfl (add_r (b:=Ac f cc el d pk 4) (by simp only[lA];lia))) (Am (d2 rfl (dc (ar (ED rfl rfl O) (ar rfl (ar rfl (ar rfl rfl)))) eB) (add_r (b:=Bg dd D s G (Ac f cc el d pk 4) n) (by simp only[lA];lia))) ?_)))));rintro⟨b,hb,J⟩:Al (c0/3) (m:=2) #[];have em:Aw Du (.p (.int (c0/3))) (.p (.int 2))=some (.p (.int b)):=tI (D7 _ (j:=2) #[]) J
  by_cases h:b=1
  .obtain⟨e,he,ee⟩:=expr (k:=k+10) (o:=false) (o':=true) (c0/6) (ps:=[]) (fs:=fs) (ds:=[dd 0]) (λx F=>by cases F) #[] f6.2.1 (by rw[f6.1];decide) (by rw[f6.1];decide) (λx F=>by rw[mE F];exact(nd.ok 0 #[]).1) (Nat.le_of_ble_eq_true rfl);refine wit (bb (d2 (d2 #[Dh c0 #[]] rfl em) rfl (K6 (by rw[h];rfl)))) (Jj (ps:=(BW f ff++Ck cc el++An dd D n++Ac f cc el d pk 4++Bg dd D s G (Ac f cc el d pk 4) n).map Row.p) (p:=(Row.ask e).p) (dt (fz rfl (fz (dc (ar #[Dh c0 #[]] (ar (dt rfl) (ar rfl (ar #[rfl] rfl)))) ee) rfl))) (by rw[lM];simp only[lA];lia) (Cn ?_));have:=last (y5:=some (kL true dd)) (y6:=some (.lst true (fs.map P.str))) (y7:=some (.lst true ((Ck cc el).map Row.p))) (y8:=some (.lst true ((An dd D n).map Row.p))) (y9:=some (.lst true ((Ac f cc el d pk 4).map Row.p))) [.ask e] (λr v=>#[e,he,mE v]) (Nat.le_refl 1);unfold Bm at this;rw[map_append (l₁:=_++_)]at this;exact this
  .have:=last (y5:=some (kL true dd)) (y6:=some (.lst true (fs.map P.str))) (y7:=some (.lst true ((Ck cc el).map Row.p))) (y8:=some (.lst true ((An dd D n).map Row.p))) (y9:=some (.lst true ((Ac f cc el d pk 4).map Row.p))) [] (λr v=>by cases v) (Nat.zero_le 1);unfold Bm at this;rw[append_nil]at this;exact Ag (bb (d2 (d2 #[Dh c0 #[]] rfl em) rfl (DS (by lia)))) this
 rintro⟨z,e,rs,rk,kk,rfl,E,B⟩:cw (k:=k + 11) (args:=[.lst false (ns.map P.int)]) (R:=λz=>∃(rs:List Row) (rk:Str->Nat) (kk:Nat->Str),z= .lst true (rs.map Row.p)/\Wf rk rs/\K3 rs kk) (gF 60 rfl) (by
  rintro⟨b,hb,J⟩:Al c0 (m:=3) #[];have em:Aw Du (.p (.int c0)) (.p (.int 3))=some (.p (.int b)):=tI (D7 _ (j:=3) #[]) J;refine Am (ED rfl rfl m0) (Am (ED (ED rfl rfl Y) rfl eN) (Am (c:=kL true f) #[rfl] (Am (c:=kL true λi=>f (3+i)) (d3 rfl rfl rfl rfl) (Am (c:=kL true λi=>f (6+i)) #[rfl] ?_))))
  by_cases h:b=1
  .have:=rest (y6:=none) (y7:=none) (y8:=none) (y9:=none) (y10:=none) (JO (f:=f) (g:=λi=>(i+2)%3) y A (λi h=>by lia) λi j h1 h2 e=>by lia) (JO (f:=f) (g:=λi=>(i+1)%3) y A (λi h=>by lia) λi j h1 h2 e=>by lia);exact wit (bb (d2 #[em] rfl (K6 (by rw[h];rfl)))) (Am (c:=kL true λi=>f ((i+2)%3)) (dl (fz #[#[2]] (fz #[#[0]] (fz #[#[1]] rfl)))) (Am (c:=kL true λi=>f ((i+1)%3)) (dl (fz #[#[1]] (fz #[#[2]] (fz #[#[0]] rfl)))) (Cn (Hn (λ_ h=>h.elim) (λz h=>h) this))))
  .exact Ag (bb (d2 #[em] rfl (DS (by lia)))) (Hn (λ_ h=>h.elim) (λz h=>h) (rest (JO (f:=f) (g:=λi=>3+i) y A (λi h=>by lia) λi j h1 h2 e=>by lia) (JO (f:=f) (g:=λi=>6+i) y A (λi h=>by lia) λi j h1 h2 e=>by lia))))
 exact#[rs,rk,kk,e,E,B]
end
end Nv
namespace Lk17
open PySem Nv
theorem SJ:∀ns:List Int,ns.length<=63->Be fns As 98 68 [.lst false (ns.map .int)]= .ok (.p (.bl true)):=λns _=>WK (k:=85) (Y5 (k:=85))
end Lk17
open PySem PySem.W PyProof.Rows
set_option maxRecDepth 100000 in
set_option maxHeartbeats 0 in
theorem PySem.Challenge.cw_kinddeeds_k17_tree_walked_holds : PySem.Challenge.rw_kinddeeds_k17_tree_walked.Holds := by
  w_on; o_law; k_head; (case hw => w_witness2)
  k_fill
  refine Nv.walk (l := PySem.Challenge.rw_kinddeeds_k17_tree_walked) 63 200 [(306, 302)] rfl (by decide) rfl ⟨rfl, by decide, by decide⟩ (fun w h Y => PySem.W.km_in_of Y) (fun w h Y p hp => PySem.W.km_tabs_of Y p (by simp only [List.map_cons, List.map_nil, List.mem_cons, List.not_mem_nil, or_false] at hp ⊢; exact hp)) ?F
  case F =>
    intro w mg fa h KX G hmg
    apply Lk17.all_mk Lk17.SJ KX G hmg
    all_goals first
      | k_is
      | exact ⟨by k_is, ⟨⟨_, _, _, _, _, _, _, _, _, rfl, by k_is, by k_is⟩, by k_is⟩⟩
      | exact ⟨⟨by k_is, by k_is⟩, ⟨⟨_, _, _, _, _, _, _, _, _, rfl, by k_is, by k_is⟩, by k_is⟩⟩
      | rfl
      | kernel_rfl
      | (repeat first | exact Nv.Each.nil | refine Nv.Each.cons (by k_is) ?_)
