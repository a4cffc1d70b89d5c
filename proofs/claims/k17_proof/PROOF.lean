import PyProof.Rows.All
import KE.KDictSum
import KE.KLam
import OpenK.AllK
import PyProof.CompMap
import PyProof.EnumFor
import PyProof.EnumMake
import PyProof.EqAt
import PyProof.EqKinds
import PyProof.ListMulRoad
import PyProof.ListRange
import PyProof.ListStr
import PyProof.Rows.SetFrom
import PyProof.TupleCall
import PyProof.WalksMore
import PyProof.ZipIter
import PySem.Syntax
import Wide.All
import Wide.FinOn
import Lean
import PySem.Challenge.RW_kinddeeds_k17_tree_walked
set_option Elab.async false
set_option linter.all false
set_option compiler.extract_closed false
set_option genSizeOf false
set_option bootstrap.genMatcherCode false
set_option maxRecDepth 100000
set_option maxHeartbeats 4000000
noncomputable section
structure PySem.W.Fast:Prop where(tw5586339850911640425 tw14767526510607934952 tw7472823994384505416 tw12541253063034276727 tw6972380832774346208 tw1767223492843153005 tw14791863664818309749 tw13013130304730004652 tw7235325197337083001 tw3816481955274908817 tw15906699997256794059 tw5301923911393910660 tw17663833484244095961 tw12557079935966392899 tw14267884068222745678 tw13942955757869739716 tw757372431150646452 tw928596914040317975 tw8551707611667465105 tw5964429709406949038 tw17962012562510652081 tw6578308682198900514 tw8533959276495983652 tw10205787646643365634 tw3333084922032978900 tw7375547410353827656 tw8917689627465760263 tw1024076945458090625 tw6265802555052512497 tw12393333977992742020 tw17954013794781215326 tw9062259485764476625 tw8790337767913046218 tw14447281556953386090 tw14536908358835430297 tw12563171592866081406 tw15751295271606150781 tw7052266562023646887 tw11811857460735985945 tw4392493095844912057 tw2329271261188587815 tw3607583899568302343 tw11289511778912985638 tw339177626011080325 tw6133239675613007492 tw805677713342270879 tw4126308369215088815 tw5179244828161868156 tw433922665469997974 tw17253825680780997344 tw13512944392131697069 tw13754522980295240396 tw4514327172211871114 tw17452966107652833559 tw13446501228862253722 tw15877267366451445131 tw6334325123176736262 tw11956864125647974659 tw288221042852714397 tw2285776495151521686 tw13304922377303947630 tw12012869850459291594 tw12533544973656229583 tw5570733487873793081 tw11921350990879395305 tw18044091411155185112 tw4892809436418930972 tw862863653903470710 tw8456778950254028809 tw7548936872960163143 tw14809800141085236641 tw7878688330468473277 tw10855793547001514741 tw11530460363613553692 tw947377787980976594 tw10061704456264051674 tw498265342025269071 tw6831347922470085294 tw3070151068546935047 tw3367336081075297363 tw6041079802468919163 tw9528117071273984035 tw10205756750972356195 tw1380042000549619423 tw15833032007537152052 tw8611015088592717620 tw9834344666281224611 tw1297468719712056968 tw5484365944083811035 tw935013015227201967 tw4750548287527473050 tw6157075176573895222 tw10683177384278075408 tw14434893748280946329 tw2961005707860524676 tw10132009789101376130 tw4018734585164700631 tw10331717491968596519 tw506498798768634872 tw11668424802944518509 tw17104185896262910448 tw10419415262927198448 tw1591420028296178146 tw7283948336911552315 tw6164496335862929295 tw606878045570652874 tw15383561795359821349 tw13430565232403737121 tw5717606674390939561 tw13352879503330211790 tw3613511792804648225 tw6232032712202323789 tw10633652482147234388 tw9349730684356194690 tw2433112142694468731 tw13110028742526978620 tw4838387257161642493 tw13393741412969341982 tw8214411475418876032 tw454198621113828997 tw908514262099001554 tw15646101736521495255 tw1679929534412613916 tw13358768890403370708 tw14886558316591291850 tw3461482935031858259 tw5909408381842253264 tw794928238767756349 tw13907507313320566072 tw4758216512480228146 tw13535329537074102540 tw8287162969329302029 tw16013683931226733240 tw10943964779976879343 tw16889421207751232786 tw1542045232049002004 tw14773227348250122909 tw9851028862772404017 tw457903283081564458 tw759484342655027687 tw5105452528649378915 tw10690634724829287494 tw15612063502161804377 tw15497188420826198499 tw4729264073038157164 tw16055521881495600842 tw8381698909220325814 tw18106501779754345622 tw15242321992506473714 tw1705250268791723117 tw7795270459293488805 tw16219665030305280509 tw10264601621746565802 tw3679338202292083532 tw10357095335258268029 tw2636945157835621627 tw10975174652449941834 tw1016922123371887631 tw82475422840395192 tw15210306619220087961 tw1545972590749176499 tw5914620050723451439 tw1077943055036425266 tw6545569219009877146 tw3284218578076436332 tw573884724346087271 tw1300030907546285218 tw8123312825874509528 tw15208629087119352188 tw2470251967579914213 tw12448079609741064235 tw6534835172581965480 tw3494456619954515677 tw8040920770572907596 tw6609832398017415949 tw10151520851260670635 tw7684189807282749431 tw13874427394259630175 tw7655782711261758265 tw15757443288176862640 tw3137412546017740478 tw7129368544971454084 tw12428499856918797602 tw2130841765370359642 tw14314482881490055306 tw16859046988858791727 tw2490471921746813980 tw3480758747544925794 tw8107104294372710376 tw11593189908284410726 tw8041133939015975841 tw421030204968483637 tw13096501307869189755 tw17063866957352700552 tw1040056744439609783 tw5058961138053143611 tw12261968616361744590 tw73916409659479094 tw5228991762948522527 tw9007525522220491126 tw6632710759359078284 tw16160779116831829564 tw10654365439106241675 tw13380584137240566888 tw14279541937484579913 tw8754762561724180694 tw11381636276509135559 tw15086232215358397784 tw758677645875026799 tw12715504586871306549 tw5496896180407161180 tw9972665946128016491 tw5441625181876228863 tw14704666757669158932 tw13600453328245111421 tw17749566036846945006 tw446061752005587229 tw2370653152993625054 tw17610222593300838858 tw15306490524657520783 tw7954403832434008462 tw8865490472345488367 tw479243248143656782 tw6053499153324457368 tw10585910237378135393 tw99006631594019641 tw6266652011130713390 tw1414111763137100093 tw9825599386597176557 tw8252088714470442517 tw2372995579629596177 tw1441485307842898616 tw1503872796237911709 tw13029863756704756299 tw3746951622100924932 tw1207998605257957370 tw10743032645002668056 tw16268814286322945803 tw16622583301460777764 tw14172066264988050176 tw7076135265924702948 tw857542643082057826 tw8443758269472670966 tw1557738564111210510 tw1266365451373725226 tw16556710527565952446 tw453830050929675539 tw969334932017803459 tw8526693862676304807 tw3882967253726319411 tw2083010939879059377 tw17764190633027042385 tw3690583964185791844 tw7847063624735070279 tw11703587210734973785 tw13688355824177315426 tw2543022557213350304 tw12199919648260225016 tw8096471332676497359 tw1647701679625665627 tw13521182158308844074 tw7521067399003946789 tw8725914250968070602 tw5628471442019148369 tw8166258049838385935 tw14602930019976591938 tw4129536786675016538 tw11552759306818095046 tw994216972216642100 tw11500437108317665959 tw11178713247377309995 tw4832791343062248781 tw6697888300471270496 tw5249894055826085976 tw15344843139905572716 tw12247331973340863325 tw5358760565711558234 tw17204507546538509488 tw5558357310259497048 tw16786595054450660440 tw3500841481406429775 tw9472296447311304422 tw7943603973813057338 tw17961471243849051317 tw948247723851594417 tw8080086807341776260 tw15541706767838229471 tw17222747319244126565 tw2129629665455443915 tw2469287366859534991 tw1727543232525972059 tw17943359428363316275 tw16607502013045101675 tw11631904016400025704 tw1945854820274790810 tw5558011288306095869 tw3890617769937182497 tw15266620664167375649 tw11925262506743397464 tw11780415259932601995 tw13901673344208937377 tw15327424301375132837 tw15923210120132489815 tw15897855882766344620 tw6720557523806657642 tw9819764915262325218 tw1564261483971610966 tw3405359642409333114 tw17751639232760757498 tw5826585330609422541 tw15784546268138451449 tw8011180034274602506 tw14788164295713639176 tw5145991633281880391 tw1634861153382631171 tw7281860903049333450 tw18183084088365549032 tw13099675000866410305 tw2733303642419515785 tw15494704777577991719 tw11297818396923247022 tw6641868336009959018 tw10525786668663035761 tw1861616701799609020 tw7351330389192331036 tw6300908545941786123 tw454203991444322064 tw6395928593057460174 tw16091042388300355031 tw15685482062587937724 tw9225130134666262388 tw10715762791658929070 tw5799123640873787815 tw16294803119177703390 tw555960913143947842 tw8587478781219096904 tw5213929830146600632 tw17540513809938608981 tw806596939171465229 tw12852599196224272268 tw10648573641678214636 tw14178373784764533265 tw8722673804619857195 tw9626963438944420115 tw15187326238265776170 tw13443662679484036162 tw17018904196986815812 tw4264862141697879635 tw9487404325171411249 tw3665254946393282925 tw10344015571816456961 tw4903091724844668474 tw10524489014149646435 tw12783776370566082705 tw18397793589618604081 tw10357616790171809826 tw10705171132740041267 tw10314788161215686419 tw814784307139859839 tw1540346925336609086 tw2116998612943334543 tw9320210944352531732 tw10073886886781831107 tw9881226287790745302 tw7821475852412650621 tw17446335947957821799 tw1928142251016336212 tw6702097439749383117 tw11977995168652442280 tw752539454241432354 tw10772420590253628234 tw17016087931745485584 tw11070193601133547879 tw15622322318092291612 tw14116086734843016997 tw6285615626899448726 tw13865915361707879805 tw10139584385944976571 tw9055660007176963674 tw6468803467375672317 tw13978318115115398777 tw2429293116250635123 tw10745711078926684827 tw14396154108597594315 tw2156847763199716227 tw16413438838240987757 tw935537421525310882 tw9537856569629446502 tw5510147624122488302 tw4618272467099522204 tw9107055374217902940 tw6523669715388784488 tw15220749243276055709 tw7257802017603873903 tw196224842904775709 tw4321134638610137199 tw2786477058947662737 tw1375897727814506669 tw15574639180686531187 tw14661012538900859501 tw12406645960323454261 tw1650660785510389839 tw16533643554791199709 tw4266320063912711304 tw12032664370575637118 tw6971691531734493595 tw5537337883871791071 tw6606536081080078717 tw14432905451371660984 tw581804254325485125 tw17970479341451284736 tw12236231835177261896 tw2952577523249342414 tw14669504420354449428 tw8098143128606055063 tw8678404886197512477 tw11666933413307388174 tw7679860751911554747 tw13751990548285573220 tw4985308269298012195 tw1654286310530128430 tw15470381196393934716 tw15975538481735032525 tw12285045172721523464 tw9736204674036836038 tw14695888873147059576 tw17093421140852294889 tw437800154557715402 tw1858454407301074329 tw1355167998809721775 tw4006236359636131896 tw8849766180337354228 tw1834327917209967088 tw792435849561286750 tw10410007197673179984 tw1847817064392327220 tw12720744279453313820 tw17253340082615684533 tw8611208715563658058 tw15382526008247679308 tw10474824914354038998 tw13505958284900395817 tw15119527006973265860 tw15273535952587103718 tw13851105856204335746 tw285988039333880057 tw13155039988957902475 tw7892861098462984247 tw18103051049848733232 tw4164891077438895738 tw5741362379130463748 tw971393923059220006 tw9334963912631169303 tw12506256001923896851 tw10505204361126668696 tw996850475072061968 tw16868022621666544901 tw16279531021716062928 tw5493378868070169780 tw17523237431587879798 tw10015362094500679332 tw9983444611567753006 tw12063373074350171670 tw5199518334815507416 tw16940412140949883510 tw3790262771043807419 tw3151256292164142056 tw9735909806524476658 tw10170961990756243460 tw4781118026593180185 tw17230525132143160130 tw1623487891067260932 tw139536945433694892 tw9466318056881706394 tw15654760320909845984 tw15044403807386734328 tw9070398306999266123 tw10903969609947612506 tw2089794297763733323 tw14669969009117759548 tw18085151406818539780 tw11260236371786271074 tw1256456641341087068 tw13316088521873174271 tw18351572049915630475 tw17163005400737323452 tw13850451350048203870 tw11402283390958718619 tw3099659355747677781 tw14200961464444151710 tw5121843035306517777 tw11707116867613946202 tw568030570245949872 tw15036855190631477638 tw12423167918716261030 tw13331039335714101685 tw10030515886062859832 tw1488951849930526296 tw17713748533037799488 tw2921373652021733523 tw13999205053978818089 tw5645882743689815068 tw14844012782218868625 tw12915011136285458003 tw694974978436200085 tw1041920679813609228 tw10862619684306277297 tw6687701683377363902 tw13892289676082883484 tw18364336128894591929 tw10884756465492681160 tw10184531424969261822 tw12273783044295529254 tw8961043071479544415 tw15293977129254500911 tw1228183733806886356 tw1206370489282984578 tw2744269716448395232 tw3897900069233127649 tw4855880771952992710 tw7855279440517103653 tw7248728790963789446 tw17302415531257557834 tw16933594076966409925 tw4238709719793606923 tw9187477220175701883 tw16527085901909204050 tw4817813082147541842 tw13964066193344362231 tw4681761040498038437 tw1774088576855810408 tw16920752454842734837 tw724804881559256691 tw7393885011990535604 tw1369224512733754517 tw7023536754988373715 tw508784796965824593 tw3582406385726365439 tw10863624497680070690 tw16964023722366490713 tw4204588349073008544 tw10799835055529495354 tw5408051002759979724 tw5663961323735882275 tw3368715124160800681 tw1664687358592795662 tw10911680222273651664 tw13698975082740844296 tw3745535466573564359 tw8140353392418139094 tw8149682747416209816 tw732817019062185363 tw15893464733165062887 tw5495029309402729383 tw10787508865938089268 tw12099736751659011101 tw4782482152754141603 tw11511770718628928916 tw17775411108941240002 tw18068486853853611690 tw7693615579009806868 tw18100756075364622813 tw80831953402423907 tw7028363415650679131 tw12736524046739190357 tw8281254914081008787 tw9723997219405788026 tw10813709251592209442 tw3989049636439035226 tw12384647391492286713 tw6372773185732362120 tw15382310837609257848 tw18354470986341687168 tw12090168473642496651 tw13505079877662267866 tw4370464521449567590 tw2901245493027581515 tw16514392852857289060 tw8856374022467226997 tw16691343373480156243 tw200579727196786061 tw14064137289623167405 tw8952676436870997255 tw8315432351984398218 tw12217710804115540095 tw3000580315080737895 tw11515867232392273556 tw18303086486048774517 tw2669386225486894642 tw255272523674443844 tw14129081284198212650 tw131559032421488740 tw5194271190256599418 tw777746102453021555 tw2887257694024805028 tw6494444783620431473 tw10874550087507133161 tw3365061635968838761 tw16039414306193233297 tw9008220549721623039 tw12471964025711031804 tw6428118119871907296 tw17659551100870117423 tw17376070982979477573 tw4743371055913226188 tw12058856325594239099 tw1823775722559998199 tw16781284831925603257 tw11872526910916975656 tw10970487384849536956 tw16902267416910103389 tw7432238650627503028 tw17465692383412012665 tw14293989894687649332 tw9523702518365309809 tw2748417993718976843 tw1534136295104141440 tw18281912366852800553 tw12977500465242134277 tw2808145243413129341 tw646648460993608135 tw6919210673153263756 tw1408721490429524751 tw8266233330154184711 tw9515266585232171988 tw3416666318224042760 tw7436825509483587253 tw14994778035331107729 tw18049690343517925449 tw18368487543855271612 tw8595248213860627786 tw18009449281985093569 tw7301918938493345842 tw10638386942532438781 tw11059835195272422442 tw10825119176147135832 tw9289401938500656225 tw9516934568050613757 tw5962545390830536904 tw10124096432917242986 tw3429032148031808326 tw7153532494217388060 tw6174237387870958747 tw2805218782759132032 tw17355047481624173073 tw3129232324643118139 tw13816143119474379414 tw6230372876928370865 tw5153244615515155241 tw10436788107299411586 tw9351077827981787505 tw10662727457974869013 tw12053568859715744601 tw16736703465099366548 tw264465288060236997 tw11326750198785476039 tw13318746695657145050 tw18325510121047366979 tw15981732636657542414 tw17041940444576466460 tw16840484387526896867 tw309450182639516880 tw2081873635860695170 tw11747667012100250734 tw2211389327731448375 tw147216890950642091 tw953215260757529978 tw17923041496294311995 tw17523771616207974294 tw9501165052046202920 tw2380735297775350124 tw7024551102181830176 tw2662496399876154046 tw6817971149626975677 tw5664538234313610961 tw13987486976805939724 tw17204298989079191882 tw639072199455670521 tw3849137774865443654 tw11245971195931351384 tw5245384419663520119 tw4275193863852665759 tw18245197175970056054 tw13436009616714538500 tw4405586297638453714 tw5757281920452761083 tw4330428811791747861 tw7219735697390286539 tw16279466341824810998 tw4935450704168823513 tw13868723343857892981 tw14496505212702548537 tw14232729089996756242 tw2344634407003997575 tw15642106421614444003 tw3672909941879834336 tw1307110767730137846 tw17483613454172292743 tw14661502800757876648 tw2898845561687204573 tw5973246092099815138 tw6341570227075443881 tw16774152303906033571 tw1154521586641805587 tw2531483729013180768 tw6950527734746656919 tw17427777386086221792 tw9206208583404377550 tw1130624855258447191 tw6275525499435846832 tw2676140137757854535 tw15950047923909679549 tw14818456783904132204 tw113701890529311651 tw5612572860586826894:True)
open List (mem_singleton mem_append mem_filter mem_range filterMap_cons mem_cons_of_mem mem_cons mem_filterMap size_toArray map_cons append_nil nodup_cons of_mem_zip length_take mem_of_getElem? length_drop length_set reverse_cons map_nil forIn_cons lookup_cons all_eq_true not_mem_nil ext_getElem? mem_iff_getElem getElem_mem isEmpty_iff drop_eq_getElem_cons append_assoc mem_map_of_mem mem_iff_getElem? zip_cons_cons all_cons length_zip mem_map take_of_length_le drop_zero not_lt any_cons range_succ map_append take_add_one length_range getElem_map map_map map_congr_left nodup_append any_eq_true take_length zipIdx_cons forIn_nil pairwise_cons drop_one map_singleton mem_of_mem_take lookup_eq_none_iff map_flatMap flatMap_cons take_append_drop flatMap_append flatMap_singleton mem_flatMap length_filter_le all_append pairwise_map mem_range'_1 filter_append flatMap_map)
open PySem.W (instObj methodObj hideAll hideAll_size hideAll_get of_hideAll hideAll_none Frag lookIn InstAt plainGet hasDictIn findIn handedIn plainGet_of isFn plainOver takerIn Looks makesIn typeIn emptyDict keepIn cellsFrom_some fnOf codeIn CodeHd kla_fn tabObj envX codeHdIn codeHd_of_K KdlSrc kitOne kia_one kitx_list nsIn mg_of)
abbrev _root_.Va:=PySem.Value->PySem.Shared->Prop
abbrev _root_.Oa:=List (PySem.Addr×PySem.Obj)
abbrev _root_.ng(x:PySem.Str):Prop:=(x == ("__debug__":PySem.Str))=false
local macro_rules
|`($k^^^$n&&&$e)=>`($k == PySem.NameKind.free && ($e).scope.kind == .function && ($e).kindOf $n == some .cell)
|`($x|||$m)=>`(PySem.wpAny (PySem.model ($x).prog ($x).w) ($x).A $m)
|`(tactic|rintro $p:rcasesPat : $e)=>`(tactic|obtain $p:rcasesPat := $e)
|`(~~~$x)=>`(PySem.placesWithHash ($x).size (λi=>Option.map (λx=>x.hash) ($x)[i]?))
|`(∅)=>do let m:=Lean.mkIdent;`($(m `L2.Inv) $(m `X) $(m `p0) $(m `Y) $(m `H) $(m `s))
theorem _root_.xN{M:PySem.Model}{A:PySem.Around}{E:PySem.Value->PySem.Shared->Prop}{s:PySem.Shared}{α:Type}{c:Prop}[Decidable c]{a b:PySem.Sem α}{Q:α->PySem.Shared->Prop}(h:¬c)(k:PySem.wpAny M A b Q E s):PySem.wpAny M A (if c then a else b) Q E s:=PySem.wpAny_ite_split (absurd · h) λ_=>k
local macro_rules
|`(#[])=>`(by decide +kernel)
|`(#[$xs,*])=>`(⟨$xs,*⟩)
theorem mS{α:Type}{a:α}{l:List α}:a∈a::l:=List.mem_cons_self
theorem mL{α:Type}{a:α}{l m:List α}(h:a∈l):a∈l++m:=List.mem_append_left m h
theorem mR{α:Type}{a:α}{l m:List α}(h:a∈m):a∈l++m:=List.mem_append_right l h
theorem mE{α:Type}{a b:α}(h:a∈[b]):a=b:=mem_singleton.mp h
theorem mZ{α:Type}{a:α}{l m:List α}(h:a∈l++m):a∈l\/a∈m:=mem_append.mp h
theorem dF{p:Prop}[Decidable p](h:¬p):decide p=false:=decide_eq_false h
theorem dZ{p:Prop}[Decidable p](h:p):decide p=true:=decide_eq_true h
theorem oM{α β:Type}{x:Option α}{f:α->β}{b:β}(h:x.map f=some b):∃a,x=some a/\f a=b:=Option.map_eq_some_iff.mp h
theorem lA{α:Type}{a b:List α}:(a++b).length=a.length+b.length:=List.length_append
theorem lS{α:Type}{a:α}:[a].length=1:=rfl
theorem lC{α:Type}{a:α}{l:List α}:(a::l).length=l.length+1:=rfl
theorem lM{α β:Type}{f:α->β}{l:List α}:(l.map f).length=l.length:=List.length_map f
theorem bA(a b:Bool):((a&&b)=true)=(a=true/\b=true):=Bool.and_eq_true a b
theorem PySem.wB{α β:Type}{M:PySem.Model}{A:PySem.Around}{E:PySem.Value->PySem.Shared->Prop}{s:PySem.Shared}{m:PySem.Sem α}{f:α->PySem.Sem β}{Q:β->PySem.Shared->Prop}(h:PySem.wpAny M A m (λa s'=>PySem.wpAny M A (f a) Q E s') E s):PySem.wpAny M A (m>>=f) Q E s:=PySem.wpAny_bind h
theorem PySem.gP{h:PySem.Heap}{b:PySem.Addr}{o u:PySem.Obj}(e:h.get? b=some u):(h.push o).get? b=some u:=PySem.Heap.get?_push_of_some o e
theorem iP{c:Prop}{i:Decidable c}(h:c){α:Type}{t e:α}:(@ite α c i t e)=t:=if_pos h
theorem iN{c:Prop}{i:Decidable c}(h:¬c){α:Type}{t e:α}:(@ite α c i t e)=e:=if_neg h
theorem PySem.hZ{h:PySem.Heap}{a:PySem.Addr}{o:PySem.Obj}(e:h.get? a=some o):a<h.objs.size:=PySem.Heap.lt_size e
namespace L2
open PySem PySem.Spec PyProof.Rows
abbrev Key:=Sum Int Str
def Uy:Key->Value->Bool
 |.inl k,v=>Value.isInt k v
 |.inr x,v=>Value.isStrOf x v
def bz(w:World):Key->Int
 |.inl k=>hashInt k
 |.inr x=>hashStr w x
theorem AY:∀{k:Key} {v:Value},Uy k v=true->(∃i t,k=Sum.inl i/\v=Value.int i t)\/(∃x t,k=Sum.inr x/\v=Value.str x t)
 | .inl i,v,h=>by
   rintro⟨t,e⟩:Value.isInt_shape (k:=i) (v:=v) h;exact .inl #[i,t,rfl,e]
 | .inr x,v,h=>by
   rintro⟨t,e⟩:Value.isStrOf_shape (x:=x) (v:=v) h;exact .inr #[x,t,rfl,e]
theorem WJ(a b:Int):decide ((Sum.inl a:Key)=Sum.inl b)=(a == b):=by
 by_cases e:a=b
 .subst e;simp
 .have h:¬(Sum.inl a:Key)=Sum.inl b:=λq=>e (Sum.inl.inj q)
  rw[dF h];exact(beq_eq_false_iff_ne.mpr e).symm
theorem WE(a b:Str):decide ((Sum.inr a:Key)=Sum.inr b)=decide (a=b):=by
 by_cases e:a=b
 .subst e;simp
 .have h:¬(Sum.inr a:Key)=Sum.inr b:=λq=>e (Sum.inr.inj q)
  rw[dF h,dF e]
theorem WI(a:Int)(b:Str):decide ((Sum.inl a:Key)=Sum.inr b)=false:=dF (λq=>nomatch q)
theorem WG(a:Str)(b:Int):decide ((Sum.inr a:Key)=Sum.inl b)=false:=dF (λq=>nomatch q)
noncomputable def IC(prog:Program)(w:World):PySem.KeyKind prog w Key where
 is:=Uy
 hash:=bz w
 inj :=λv a b ha hb=>by
  rcases AY ha with⟨i,t,rfl,rfl⟩|⟨x,t,rfl,rfl⟩
  .rcases AY hb with⟨j,u,rfl,e⟩|⟨y,u,rfl,e⟩
   .injection e with e1 _;rw[e1]
   .exact nomatch e
  .rcases AY hb with⟨j,u,rfl,e⟩|⟨y,u,rfl,e⟩
   .exact nomatch e
   .injection e with e1 _;rw[e1]
 byValue:=λk v h=>by
  rcases AY h with⟨i,t,rfl,rfl⟩|⟨x,t,rfl,rfl⟩<;>rfl
 pyHash:=λhv h=>by
  rcases AY hv with⟨i,t,rfl,rfl⟩|⟨x,t,rfl,rfl⟩
  .exact wpAny_pyHash_int h
  .exact wpAny_pyHash_str h
 eqBool:=λhu hv h=>by
  rcases AY hu with⟨i,t,rfl,rfl⟩|⟨x,t,rfl,rfl⟩
  .rcases AY hv with⟨j,u,rfl,rfl⟩|⟨y,u,rfl,rfl⟩
   .rw[WJ]at h;exact wpAny_eqBool_int h
   .rw[WI]at h;exact SeqAt.EqAt.int_str i t y u _ _ _ _ h
  .rcases AY hv with⟨j,u,rfl,rfl⟩|⟨y,u,rfl,rfl⟩
   .rw[WG]at h;exact SeqAt.EqAt.str_int x t j u _ _ _ _ h
   .rw[WE]at h;exact wpAny_eqBool_str h
 «strs»:=λk x t v h=>by
  rcases AY h with⟨i,u,rfl,e⟩|⟨y,u,rfl,e⟩
  .exact nomatch e
  .injection e with e1 _
   subst e1;cases v<;>rfl
inductive V where
 |AG|bl (b:Bool)|int (i:Int)|str (x:Str)|XI (b:Array UInt8)|a9 (b:UInt64)|ref (a:Addr)|ty (n:String)
 deriving DecidableEq
noncomputable def RelV:V->Value->Prop
 |.AG,u=>u=Value.none
 |.bl b,u=>u=Value.bool b
 |.int i,u=>∃t,u=Value.int i t
 |.str x,u=>∃t,u=Value.str x t
 |.XI b,u=>∃t,u=Value.bytes b t
 |.a9 b,u=>∃t,u=Value.float b t
 |.ref a,u=>u=Value.ref a
 |.ty n,u=>u=Value.type n
abbrev Vals:List V->List Value->Prop:=Paired RelV
variable{us:List Value}
theorem Vals.length{xs:List V}(r:Vals xs us):xs.length=us.length:=Paired.length r
theorem Vals.get:∀{xs:List V} {us:List Value} {i:Nat} {x:V},Vals xs us->xs[i]? =some x->∃u,us[i]? =some u/\RelV x u
 |_,_,_,_,.nil,e=>by simp at e
 |_,_,0,_,.cons r _,e=>by simp at e;subst e;exact#[_,rfl,r]
 | _,_,i + 1,x,.cons _ t,e=>by
   rintro⟨u,h1,h2⟩:Vals.get (i:=i) (x:=x) t (by simpa using e);exact#[u,by simpa using h1,h2]
theorem Vals.set(r:RelV x u):∀{xs:List V} {us:List Value} (i:Nat),Vals xs us->Vals (xs.set i x) (us.set i u)
 |_,_,_,.nil=>.nil
 |_,_,0,.cons _ t=>.cons r t
 |_,_,i+1,.cons q t=>.cons q (Vals.set r i t)
theorem Vals.append:∀{xs ys:List V} {us ws:List Value},Vals xs us->Vals ys ws->Vals (xs++ys) (us++ws)
 |_,_,_,_,.nil,s=>s
 |_,_,_,_,.cons r t,s=>.cons r (Vals.append t s)
theorem Vals.take:∀{xs:List V} {us:List Value} (n:Nat),Vals xs us->Vals (xs.take n) (us.take n)
 |_,_,0,_=>.nil
 |_,_,_+1,.nil=>.nil
 |_,_,n+1,.cons r t=>.cons r (Vals.take n t)
theorem Vals.drop:∀{xs:List V} {us:List Value} (n:Nat),Vals xs us->Vals (xs.drop n) (us.drop n)
 |_,_,0,r=>r
 |_,_,_+1,.nil=>.nil
 |_,_,n+1,.cons _ t=>Vals.drop n t
def Hk:Option V->Option Value->Prop
 |some v,some u=>RelV v u
 |none,none=>True
 |_,_=>False
def KV{κ:Type}:List (κ×V)->List (κ×Value)->Prop:=Paired λ(p:κ×V) (q:κ×Value)=>p.1=q.1/\RelV p.2 q.2
def kV:Key->V
 |.inl i=>.int i
 |.inr x=>.str x
inductive HO where
 |lst (xs:List V)
 |tup (xs:List V)
 |dK (kvs:List (Key×V))|dT (kvs:List (List Key×V))
 |set (S:Int->Bool)(n:Nat)
 |ins (C dx:Addr)(fs:List (Str×V))
 |own (x:Addr)
 |xd (fs:List (Str×V))
 |met (f x:Addr)
 |Xw (lo hi:Int)
 |CK (o:Obj)(u:HO)
 |Jn (ps:Array Value)
 |ext (φ:Heap->Prop)
abbrev Hp:=Addr->Option HO
def upd(H:Hp)(a:Addr)(o:HO):Hp:=λb=>if b=a then some o else H b
variable{H:Hp}
theorem A6:upd H a o a=some o:=by unfold upd;rw[iP rfl]
theorem A4{a b:Addr}(h:b≠a):upd H a o b=H b:=by unfold upd;rw[iN h]
theorem AI{o:HO}(h:H a=some o)(h':H b=none):a≠b:=by
 intro e;subst e;rw[h]at h';cases h'
section
variable (P:Program)(w:World)
noncomputable def Br(H:Hp)(h:Heap)(a:Addr):HO->Prop
 |.lst xs=>xs.length<=sizeLine/\∃(its:List Value) (n:Nat),Vals xs its/\h.get? a=some {cls:=.type "list",data:=.seq its.toArray n}
 |.tup xs=>xs.length<=sizeLine/\∃its:List Value,Vals xs its/\IsTup h a its.toArray
 |.dK kvs=>kvs.length<=sizeLine/\(a == sysModules)=false/\∃vs,KV kvs vs/\h.DictOf (IC P w) a vs
 | .dT kvs=>kvs.length<=sizeLine/\(a == sysModules)=false/\∃xs:List (List Key×Addr×Value),
  Paired (λ(p:List Key×V) (q:List Key×Addr×Value)=>p.1=q.1/\H q.2.1=some (.tup (p.1.map kV))/\RelV p.2 q.2.2) kvs xs/\
  ∃o es ep,h.get? a=some o/\o.ExactDict/\o.data= .dict es ep/\es.toList=xs.map (entryOfKey (tupleKind (IC P w)))/\(xs.map (·.1)).Nodup
 |.set S n=>h.SetOf (intKind P w) a S n
 | .ins C dx fs=>H dx=some (.own a)/\fs.length<=1000/\dx≠a/\h.get? a=some (instObj C dx)/\
  ∃mA,h.Ns1 dx mA/\(∀f,Hk (fs.lookup f) (mA f))/\PySem.Within mA (fs.map (·.1))
 |.own _=>∃o,h.get? a=some o
 |.xd fs=>∃mA,h.Ns1 a mA/\∀f,Hk (fs.lookup f) (mA f)
 |.Xw lo hi=>∃t u v,h.get? a=some {cls:=.type "range",data:=.fields [.int lo t,.int hi u,.int 1 v].toArray}
 |.CK o u=>h.get? a=some o/\Br H h a u
 |.Jn ps=>h.get? a=some {cls:=.none,data:=.fields ps}
 |.met f x=>h.get? a=some (methodObj (.ref f) (.ref x))
 |.ext φ=>φ h/\(∃o,h.get? a=some o)/\∀h1 h2:Heap,φ h1->(∀o,h1.get? a=some o->h2.get? a=some o)->φ h2
def DC(H:Hp)(h:Heap):Prop:=∀a o,H a=some o->Br P w H h a o
end
section
variable{P:Program}{w:World}{H H':Hp}{h h':Heap}{a:Addr}{o:HO}
theorem Br.lt(x:Br P w H h a o):a < h.objs.size:=by
 cases o with
 |lst xs=>rintro⟨_,_,_,_,e⟩:x;exact hZ e
 |tup xs=>rintro⟨_,_,_,p⟩:x;exact p.lt
 |dK kvs=>rintro⟨_,_,_,_,o,_,_,e,_⟩:x;exact hZ e
 |dT kvs=>rintro⟨_,_,_,_,o,_,_,e,_⟩:x;exact hZ e
 |set S n=>rintro⟨o,_,_,_,e,_⟩:x;exact hZ e
 |ins C dx fs=>rintro⟨_,_,_,e,_⟩:x;exact hZ e
 |own y=>rintro⟨_,e⟩:x;exact hZ e
 |xd fs=>rintro⟨_,⟨_,_,_,e,_⟩,_⟩:x;exact hZ e
 |Xw lo hi=>rintro⟨_,_,_,e⟩:x;exact hZ e
 |CK ob u=>rintro⟨e,_⟩:x;exact hZ e
 |Jn ps=>exact hZ (show h.get? a=some _ from x)
 |met f y=>exact hZ (show h.get? a=some _ from x)
 |ext φ=>rintro⟨_,⟨_,e⟩,_⟩:x;exact hZ e
theorem Paired.EW{α β:Type}{F G:α->β->Prop}:∀{l₁:List α} {l₂:List β},Paired F l₁ l₂->(∀a b,F a b->G a b)->Paired G l₁ l₂
 |_,_,.nil,_=>.nil
 |_,_,.cons r t,f=>.cons (f _ _ r) (Paired.EW t f)
theorem Br.GZ(x:Br P w H h a o)(k:∀b u,(b=a\/H b=some (.own a))->h.get? b=some u->h'.get? b=some u)
 (ho:∀b,H b=some (.own a)->H' b=some (.own a))(ht:∀b xs,H b=some (.tup xs)->H' b=some (.tup xs)):Br P w H' h' a o:=by
 induction o with
 |lst xs=>rintro⟨z,its,n,r,e⟩:x;exact#[z,its,n,r,k _ _ (.inl rfl) e]
 |tup xs=>rintro⟨z,its,r,ob,e,c⟩:x;exact#[z,its,r,ob,k _ _ (.inl rfl) e,c]
 |dK kvs=>rintro⟨z,y,vs,r,ob,es,ep,e,c⟩:x;exact#[z,y,vs,r,ob,es,ep,k _ _ (.inl rfl) e,c]
 |dT kvs=>
   rintro⟨z,y,xs,r,ob,es,ep,e,c⟩:x;exact#[z,y,xs,Paired.EW r λp q z=>#[z.1,ht _ _ z.2.1,z.2.2],ob,es,ep,k _ _ (.inl rfl) e,c]
 |set S n=>rintro⟨ob,es,ep,t,e,c⟩:x;exact#[ob,es,ep,t,k _ _ (.inl rfl) e,c]
 |ins C dx fs=>
   rintro⟨d,z,ne,e,mA,⟨od,es,ep,e2,c⟩,r⟩:x;exact#[ho _ d,z,ne,k _ _ (.inl rfl) e,mA,#[od,es,ep,k _ _ (.inr d) e2,c],r]
 |own y=>rintro⟨ob,e⟩:x;exact#[ob,k _ _ (.inl rfl) e]
 |xd fs=>rintro⟨mA,⟨od,es,ep,e,c⟩,r⟩:x;exact#[mA,#[od,es,ep,k _ _ (.inl rfl) e,c],r]
 |Xw lo hi=>rintro⟨t,u,v,e⟩:x;exact#[t,u,v,k _ _ (.inl rfl) e]
 |CK ob u ih=>rintro⟨e,q⟩:x;exact#[k _ _ (.inl rfl) e,ih q]
 |Jn ps=>
   have e:h.get? a=some {cls:=.none,data:=.fields ps}:=x;show h'.get? a=some {cls:=.none,data:=.fields ps};exact k a _ (.inl rfl) e
 |met f y=>
   have e:h.get? a=some (methodObj (.ref f) (.ref y)):=x;show h'.get? a=some (methodObj (.ref f) (.ref y));exact k a _ (.inl rfl) e
 |ext φ=>rintro⟨p,⟨o,e⟩,st⟩:x;exact#[st _ _ p λo q=>k _ _ (.inl rfl) q,#[o,k _ _ (.inl rfl) e],st]
theorem DC.lt(x:DC P w H h)(e:H a=some o):a < h.objs.size:=(x a o e).lt
theorem DC.fresh(x:DC P w H h)(e:h.objs.size<=a):H a=none:=by
 cases q:H a with
 |none=>rfl
 |some u=>exact absurd (Nat.lt_of_lt_of_le (x.lt q) e) (Nat.lt_irrefl _)
theorem DC.kept(x:DC P w H h)(k:∀b u,h.get? b=some u->h'.get? b=some u):DC P w H h':=λa o e=>
 (x a o e).GZ (λb u _ q=>k b u q) (λ_ q=>q) λ_ _ q=>q
theorem DC.laid(x:DC P w H h)(k:∀b u,h.get? b=some u->h'.get? b=some u)(hp:h.objs.size<=a)(new:Br P w (upd H a o) h' a o):DC P w (upd H a o) h':=λb u e=>by
 have hn:=x.fresh hp
 by_cases hb:b=a
 .subst hb;rw[A6]at e;cases e;exact new
 .rw[A4 hb]at e;exact(x b u e).GZ (λc v _ q=>k c v q) (λc q=>by rw[A4 (AI q hn)];exact q) λc xs q=>by rw[A4 (AI q hn)];exact q
end
def Rd(H:Hp)(a:Addr)(u:HO):Prop:=H a=some u\/∃o,H a=some (.CK o u)
variable{h:Heap}
theorem Rd.ok{P:Program}{w:World}(r:Rd H a u)(x:DC P w H h):Br P w H h a u:=by
 rcases r with r|⟨o,r⟩
 .exact x a u r
 .obtain⟨_,q⟩:=x a _ r;exact q
def ZO:Option HO->Prop
 |some (.lst _)=>True
 |some (.dK _)=>True
 |some (.dT _)=>True
 |some (.set _ _)=>True
 |some (.ins _ _ _)=>True
 |some (.ext _)=>True
 |_=>False
section
variable{P:Program}{w:World}{H:Hp}{h h':Heap}{x e:Addr}{o':HO}
theorem DC.write(ok:DC P w H h)(mu:ZO (H x))(he:e=x\/H e=some (.own x))(k:∀b u,b≠e->h.get? b=some u->h'.get? b=some u)(heo:∃u,h'.get? e=some u)
 (new:Br P w (upd H x o') h' x o'):DC P w (upd H x o') h':=λb u q=>by
 have nown:∀c y,H c=some (.own y)->c≠x:=λc y r z=>by subst z;rw[r]at mu;exact mu
 have ntup:∀c xs,H c=some (.tup xs)->c≠x:=λc xs r z=>by subst z;rw[r]at mu;exact mu
 by_cases hb:b=x
 .subst hb;rw[A6]at q;cases q;exact new
 .rw [A4 hb]at q
  by_cases hbe:b=e
  .have q':H b=some (.own x):=by
    rcases he with z|z
    .exact absurd (hbe.trans z) hb
    .rw[hbe];exact z
   rw[q]at q';cases q';rintro⟨v,hv⟩:heo;exact#[v,by rw[hbe];exact hv]
  .refine(ok b u q).GZ (λc v hc r=>k c v ?_ r) (λc r=>by rw[A4 (nown c b r)];exact r) λc xs r=>by rw[A4 (ntup c xs r)];exact r
   rcases hc with rfl|hc
   .exact hbe
   .rintro rfl
    rcases he with z|z
    .exact nown c b hc z
    .rw[hc]at z;cases z;exact hb rfl
end
structure Un(fs ex:List Addr)(H H':Hp)(h h':Heap):Prop where
 keep:∀b o,h.get? b=some o->H b=none->b∉fs->b∉ex->h'.get? b=some o
 slot:∀b o,h.get? b=some o->H b=none->b∈fs->b∉ex->∃sl,h'.get? b=some {o with slots:=sl}
 free:∀b o,h.get? b=some o->H b=none->b∉ex->H' b=none
 there:∀b o,h.get? b=some o->b∉ex->∃o',h'.get? b=some o'
 Jk:∀b xs,H b=some (.tup xs)->H' b=some (.tup xs)
 IP:∀b o u,H b=some (.CK o u)->H' b=some (.CK o u)
 Ig:∀b ps,H b=some (.Jn ps)->∃more,H' b=some (.Jn (ps++more))
section
variable{fs fs' ex ex':List Addr}{H H1 H2:Hp}{h h1 h2 h':Heap}{a x e:Addr}{o:HO}
theorem Un.any(u:Un fs ex H H1 h h1){ob:Obj}(q:h.get? b=some ob)(n:H b=none)(hx:b∉ex):∃sl,h1.get? b=some {ob with slots:=sl}:=by
 by_cases hb:b∈fs
 .exact u.slot b ob q n hb hx
 .exact#[ob.slots,u.keep b ob q n hb hx]
theorem Un.kept(k:∀b u,h.get? b=some u->h'.get? b=some u):Un fs ex H H h h':=
 #[λb ob q _ _ _=>k b ob q,λb ob q _ _ _=>#[ob.slots,k b ob q],λ_ _ _ n _=>n,λb ob q _=>#[ob,k b ob q],λ_ _ q=>q,λ_ _ _ q=>q,λ_ ps q=>#[[].toArray,by rw[q];simp]]
theorem Un.refl:Un fs ex H H h h:=Un.kept λ_ _ q=>q
theorem Un.laid(k:∀b u,h.get? b=some u->h'.get? b=some u)(hp:h.objs.size<=a)(hn:H a=none):Un fs ex H (upd H a o) h h' where
 keep:=λb u q _ _ _=>k b u q
 slot:=λb u q _ _ _=>#[u.slots,k b u q]
 free:=λb u q n _=>by rw[A4 (Nat.ne_of_lt (Nat.lt_of_lt_of_le (hZ q) hp))];exact n
 there:=λb u q _=>#[u,k b u q]
 Jk:=λb xs q=>by rw[A4 (AI q hn)];exact q
 IP:=λb u xs q=>by rw[A4 (AI q hn)];exact q
 Ig:=λb ps q=>#[[].toArray,by rw[A4 (AI q hn),q];simp]
theorem Un.write(mu:ZO (H x))(he:e=x\/H e=some (.own x))(k:∀b u,b≠e->h.get? b=some u->h'.get? b=some u)(heo:∃u,h'.get? e=some u):Un fs ex H (upd H x o) h h':=by
 have hx:∀b,H b=none->b≠x:=λb n z=>by subst z;rw[n]at mu;exact mu
 have hb:∀b,H b=none->b≠e:=λb n z=>by
  subst z;rcases he with r|r
  .exact hx b n r
  .rw[n]at r;cases r
 have hm:∀b u,H b=some u->¬ZO (some u)->b≠x:=λb u q nm z=>by subst z;rw[q]at mu;exact nm mu
 refine⟨λb u q n _ _=>k b u (hb b n) q,λb u q n _ _=>#[u.slots,k b u (hb b n) q],λb u q n _=>by rw[A4 (hx b n)];exact n,λb u q _=>?_,
  λb xs q=>by rw[A4 (hm b _ q λz=>z)];exact q,λb u xs q=>by rw[A4 (hm b _ q λz=>z)];exact q,λb ps q=>#[[].toArray,by rw[A4 (hm b _ q λz=>z),q];simp]⟩
 by_cases hbe:b=e
 .subst hbe;exact heo
 .exact#[u,k b u hbe q]
end
def ZW(h:Heap)(H:Hp):List Addr:=(List.range h.objs.size).filter λa=>(H a).isSome
def Hd(h:Heap)(H:Hp):Heap:=hideAll h (ZW h H)
theorem Np(h:Heap)(H:Hp):(Hd h H).objs.size=h.objs.size:=hideAll_size _ _
theorem PX{o:Obj}(e:h.get? b=some o)(n:H b=none):(Hd h H).get? b=some o:=
 hideAll_get _ e λhm=>by
  have q:(H b).isSome=true:=(mem_filter.mp hm).2;rw[n]at q;simp at q
theorem Sd{o:Obj}(e:(Hd h H).get? b=some o):h.get? b=some o/\H b=none:=by
 have e':h.get? b=some o:=of_hideAll (ZW h H) e;refine#[e',?_];cases q:H b with
 |none=>rfl
 |some x=>
   have hm:b∈ZW h H:=mem_filter.mpr #[mem_range.mpr (hZ e'),by simp[q]];have z:(Hd h H).get? b=none:=hideAll_none (ZW h H) hm;rw[z]at e;cases e
def TH(g h:Heap)(L:Addr):List (Addr×Obj):=(List.range h.objs.size).filterMap λa=>if a=L\/(g.get? a).isSome=true then none else(h.get? a).map λo=>(a,o)
def rest(g h:Heap)(L d:Addr):List (Addr×Obj):=(TH g h L).filter λp=>decide (p.1≠d)
structure Mod(K:Frag)(mg:Str->Option Value)(base:Heap):Prop where
 By:K.In base
 glob:base.Ns mainGlobals mg
 blt:∃mb,base.Ns builtinsNs mb/\∀x:Str,x≠"__name__"->mb x=bootBuiltins x
 nolimit:base.NoLimit
structure Cx where
 prog:Program
 w:World
 K:Frag
 mg:Str->Option Value
 base:Heap
 A:Around
 N:List Str
 s₀:Shared
 H₀:Hp
 env:Env
 outer:List Env
 stack:List Env
 ex:List Addr
 fn:Str->Bool
 calm:Bool
 pn:List (Addr×Obj)
 xe:Value->Shared->Prop
def Lk(l:List Env):List Addr:=l.filterMap (·.frame)
abbrev Cx.fs(X:Cx):List Addr:=Lk X.outer
def ak(sc:Scope)(x:Str):Prop:=sc.names.lookup x=some .local\/sc.names.lookup x=some .cell\/sc.names.lookup x=some .free
def Loc(sc:Scope)(x:Str):Prop:=sc.names.lookup x=some .local\/sc.names.lookup x=some .cell
def Look(env:Env)(h:Heap)(m:Str->Option Value)(x:Str)(u:Value):Prop:=
 (env.kindOf x=some .local/\m x=some u)\/((env.kindOf x=some .cell\/env.kindOf x=some .free)/\∃c,env.cells.lookup x=some c/\h.IsCell c (some u))
structure Cx.Ok(X:Cx):Prop where
 mod:Mod X.K X.mg X.base
 kind:X.env.scope.kind= .function
 glob:X.env.globals=mainGlobals
 blt:X.env.builtins=builtinsNs
 above:X.s₀.heap.objs.size<=X.env.locals
 inj:∀x y c,X.env.cells.lookup x=some c->X.env.cells.lookup y=some c->x=y
 has:∀x,(X.env.kindOf x=some .cell\/X.env.kindOf x=some .free)->∃c,X.env.cells.lookup x=some c
 ai:∀x c,X.fn x=true->X.env.cells.lookup x=some c->X.s₀.heap.objs.size<=c
 hd:X.calm=true->X.A.handled=none
 frames:X.A.frames=some X.stack
 cS:X.stack=X.outer\/(X.stack=X.env::X.outer/\X.env.frame=some X.env.locals)
 da:∀b∈X.ex,b≠X.env.locals/\∀x c,X.env.cells.lookup x=some c->c≠b
 bs:∀b o,X.base.get? b=some o->X.s₀.heap.get? b=some o/\X.H₀ b=none
 UN:X.base.objs.size<=X.s₀.heap.objs.size
 Wq:∀b o,X.base.get? b=some o->b∉X.ex
 X5:∀b∈X.ex,b∉X.fs
 FK:X.s₀.heap.FunFrames X.base X.outer
 XG:∀b∈X.fs,X.H₀ b=none
structure Inv(X:Cx)(p0:Oa)(Y:List (Option V))(H:Hp)(s:Shared):Prop where
 ok:X.Ok
 os:s.os=X.s₀.os
 bare:AllBare s.gens
 base:Un X.fs X.ex X.H₀ H X.s₀.heap s.heap
 loc:∃m,s.heap.Ns X.env.locals m/\∀(i:Nat) (x:Str) (v:V),X.N[i]? =some x->Y[i]? =some (some v)->ak X.env.scope x->∃u,RelV v u/\Look X.env s.heap m x u
 cell:∀x c,X.env.cells.lookup x=some c->∃v,s.heap.IsCell c v
 free:H X.env.locals=none
 Ey:∀x c,X.env.cells.lookup x=some c->H c=none
 pin:∀p∈X.pn++p0,s.heap.get? p.1=some p.2/\H p.1=none/\p.1≠X.env.locals/\p.1∉X.fs/\∀v,p.2.data≠.cell v
 Aj:DC X.prog X.w H s.heap
 len:Y.length=X.N.length
variable{X:Cx}{p0:Oa}{Y:List (Option V)}{H H':Hp}{s:Shared}{h':Heap}
theorem Cx.Ok.bp(ok:X.Ok){o:Obj}(e:X.base.get? b=some o):b∉X.fs:=λhb=>by
 have:=(ok.FK.mem hb).1;rw[e]at this;cases this
theorem Inv.bs(I:∅):∀b o,X.base.get? b=some o->s.heap.get? b=some o/\H b=none:=λb o e=>
 #[I.base.keep b o (I.ok.bs b o e).1 (I.ok.bs b o e).2 (I.ok.bp e) (I.ok.Wq b o e),I.base.free b o (I.ok.bs b o e).1 (I.ok.bs b o e).2 (I.ok.Wq b o e)]
theorem Inv.bk(I:∅):∀b o,X.base.get? b=some o->s.heap.get? b=some o:=λb o e=>(I.bs b o e).1
theorem Inv.mod(I:∅):Mod X.K X.mg X.base:=I.ok.mod
theorem Inv.Gz(I:∅):X.K.In s.heap:=I.ok.mod.By.keeps I.bk
theorem Inv.lt(I:∅):X.env.locals < s.heap.objs.size:=let⟨_,hn,_⟩:=I.loc;hn.lt
theorem Inv.sz(I:∅):X.s₀.heap.objs.size<=s.heap.objs.size:=Nat.le_trans I.ok.above (Nat.le_of_lt I.lt)
theorem Inv.Wn(I:∅){a:Addr}(h:s.heap.objs.size<=a):a∉X.fs:=λhb=>by
 rintro⟨_,o,ho,_⟩:I.ok.FK.mem hb;exact absurd (Nat.lt_of_lt_of_le (hZ ho) (Nat.le_trans I.sz h)) (Nat.lt_irrefl _)
theorem Inv.UM(I:∅):∀x c,X.env.cells.lookup x=some c->c≠X.env.locals:=λx c e z=>by
 rintro⟨v,o,ho,hd⟩:I.cell x c e;rintro⟨m,⟨o',es,ep,ho',hd',_⟩,_⟩:I.loc;rw[z,ho']at ho;cases ho;rw[hd']at hd;cases hd
theorem Inv.FK(I:∅):s.heap.FunFrames X.base X.outer:=by
 have all:∀(l:List Env),(∀b∈Lk l,b∈X.fs)->X.s₀.heap.FunFrames X.base l->s.heap.FunFrames X.base l:=by
  intro l
  induction l with
  |nil=>intro _ _;trivial
  |cons env r ih=>
    intro hs hl;rintro⟨hk,⟨L,o,hf,hn,ho,hd⟩,hr⟩:hl;have hL:L∈X.fs:=hs L (by unfold Lk;rw[filterMap_cons,hf];exact mS);rintro⟨sl,e⟩:I.base.slot L o ho (I.ok.XG L hL) hL λz=>I.ok.X5 L z hL
    exact#[hk,#[L,_,hf,hn,e,hd],ih (λb hb=>hs b (by unfold Lk;rw[filterMap_cons,hf];exact mem_cons_of_mem _ hb)) hr]
 exact all X.outer (λ_ hb=>hb) I.ok.FK
theorem Inv.stack(I:∅):s.heap.FunFrames X.base X.stack:=by
 rcases I.ok.cS with e|⟨e,hf⟩
 .rw[e];exact I.FK
 .rw[e];rintro⟨m,hn,_⟩:I.loc;refine .cons (by rw[I.ok.kind];decide) hf hn ?_ I.FK;exact Heap.get?_none_of_le (Nat.le_trans I.ok.UN I.ok.above)
theorem Inv.Ge(I:∅):∀b∈Lk X.stack,b∈X.env.locals::X.fs:=λb hb=>by
 rcases I.ok.cS with e|⟨e,hf⟩
 .rw[e]at hb;exact mem_cons_of_mem _ hb
 .rw[e]at hb;unfold Lk at hb;rw[filterMap_cons,hf]at hb;exact hb
theorem Inv.Io(I:∅):∀b∈Lk X.stack,H b=none:=λb hb=>by
 rcases mem_cons.mp (I.Ge b hb)with e|hb
 .rw[e];exact I.free
 .obtain⟨_,o,ho,_⟩:=I.ok.FK.mem hb;exact I.base.free b o ho (I.ok.XG b hb) λz=>I.ok.X5 b z hb
variable{g':Array GenState}{t':Nat}{d':Drawn}{ch:List Addr}
theorem Inv.step(I:∅)
 (hch:∀b∈ch,(b∈X.ex\/X.s₀.heap.objs.size<=b)/\b≠X.env.locals/\(∀x c,X.env.cells.lookup x=some c->c≠b)/\∀p∈X.pn++p0,p.1≠b)
 (keep:∀b o,b≠X.env.locals->b∉X.fs->b∉ch->s.heap.get? b=some o->H b=none->h'.get? b=some o)
 (slot:∀b o,b≠X.env.locals->b∈X.fs->b∉ch->s.heap.get? b=some o->H b=none->∃sl,h'.get? b=some {o with slots:=sl})(free:∀b o,b∉ch->s.heap.get? b=some o->H b=none->H' b=none)
 (there:∀b o,b∉ch->s.heap.get? b=some o->∃o',h'.get? b=some o')
 (Jk:∀b xs,H b=some (.tup xs)->H' b=some (.tup xs))(IP:∀b o u,H b=some (.CK o u)->H' b=some (.CK o u))(Ig:∀b ps,H b=some (.Jn ps)->∃more,H' b=some (.Jn (ps++more)))
 (ns:∀m,s.heap.Ns X.env.locals m->h'.Ns X.env.locals m)(Aj:DC X.prog X.w H' h')(hg:AllBare g'):
 Inv X p0 Y H' {s with heap:=h',gens:=g',drawn:=d',toks:=t'}:=by
 have neL:∀b o,X.s₀.heap.get? b=some o->b≠X.env.locals:=λb o e=>Nat.ne_of_lt (Nat.lt_of_lt_of_le (hZ e) I.ok.above)
 have neC:∀b o,X.s₀.heap.get? b=some o->b∉X.ex->b∉ch:=λb o e hx hb=>by
  rcases(hch b hb).1 with z|z
  .exact hx z
  .exact absurd (Nat.lt_of_lt_of_le (hZ e) z) (Nat.lt_irrefl _)
 have cellK:∀x c,X.env.cells.lookup x=some c->∀v,s.heap.IsCell c v->h'.IsCell c v:=λx c e v ⟨o,ho,hd⟩=>by
  have nch:c∉ch:=λz=>(hch c z).2.2.1 x c e rfl
  by_cases hc:c∈X.fs
  .obtain⟨sl,q⟩:=slot c o (I.UM x c e) hc nch ho (I.Ey x c e);exact#[_,q,hd]
  .exact#[o,keep c o (I.UM x c e) hc nch ho (I.Ey x c e),hd]
 refine#[I.ok,I.os,hg,#[λb o e n hb hx=>?_,λb o e n hb hx=>?_,λb o e n hx=>?_,λb o e hx=>?_,λb xs e=>Jk b xs (I.base.Jk b xs e),λb o xs e=>IP b o xs (I.base.IP b o xs e),λb ps e=>?_],?_,λx c e=>?_,?_,λx c e=>?_,λp hp=>?_,Aj,I.len]
 .exact keep b o (neL b o e) hb (neC b o e hx) (I.base.keep b o e n hb hx) (I.base.free b o e n hx)
 .obtain⟨sl,e1⟩:=I.base.slot b o e n hb hx;rintro⟨sl',e2⟩:slot b _ (neL b o e) hb (neC b o e hx) e1 (I.base.free b o e n hx);exact#[sl',e2]
 .obtain⟨o',e1⟩:=I.base.there b o e hx;exact free b o' (neC b o e hx) e1 (I.base.free b o e n hx)
 .obtain⟨o',e1⟩:=I.base.there b o e hx;exact there b o' (neC b o e hx) e1
 .obtain⟨m1,e1⟩:=I.base.Ig b ps e;rintro⟨m2,e2⟩:Ig b _ e1;exact#[m1++m2,by rw[e2,Array.append_assoc]]
 .obtain⟨m,hn,hl⟩:=I.loc;refine#[m,ns m hn,λi x v e1 e2 e3=>?_];rintro⟨u,r,l⟩:hl i x v e1 e2 e3;refine#[u,r,?_];rcases l with l|⟨k,c,e,z⟩
  .exact .inl l
  .exact .inr #[k,c,e,cellK x c e _ z]
 .obtain⟨v,z⟩:=I.cell x c e;exact#[v,cellK x c e v z]
 .obtain⟨m,⟨o,_,_,ho,_⟩,_⟩:=I.loc;exact free _ o (λz=>(hch _ z).2.1 rfl) ho I.free
 .obtain⟨v,o,ho,hd⟩:=I.cell x c e;exact free c o (λz=>(hch c z).2.2.1 x c e rfl) ho (I.Ey x c e)
 .obtain⟨e,n,ne,nf,d⟩:=I.pin p hp;have nch:p.1∉ch:=λz=>(hch p.1 z).2.2.2 p hp rfl
  exact#[keep p.1 p.2 ne nf nch e n,free p.1 p.2 nch e n,ne,nf,d]
theorem Inv.un(I:∅)(u:Un X.fs [] H H' s.heap h')(Aj:DC X.prog X.w H' h'):Inv X p0 Y H' {s with heap:=h',toks:=t'}:=by
 rintro⟨m,⟨o,es,ep,ho,r⟩,_⟩:id I.loc;rintro⟨sl,hL⟩:u.any ho I.free (by simp)
 exact I.step (g':=s.gens) (d':=s.drawn) (ch:=[]) (λ_ z=>nomatch z) (λb o _ hb _ e n=>u.keep b o e n hb (by simp)) (λb o _ hb _ e n=>u.slot b o e n hb (by simp)) (λb o _ e n=>u.free b o e n (by simp)) (λb o _ e=>u.there b o e (by simp)) u.Jk u.IP u.Ig (λm' hm=>by
  rintro⟨o',es',ep',ho',r'⟩:hm;rw[ho]at ho';cases ho'
  exact#[_,es',ep',hL,r']) Aj I.bare
theorem Inv.call(I:∅)(u:Un (Lk X.stack) ch H H' s.heap h')(Aj:DC X.prog X.w H' h')(hg:AllBare g')
 (hch:∀b∈ch,(b∈X.ex\/X.s₀.heap.objs.size<=b)/\b≠X.env.locals/\(∀x c,X.env.cells.lookup x=some c->c≠b)/\∀p∈X.pn++p0,p.1≠b):
 Inv X p0 Y H' {s with heap:=h',gens:=g',drawn:=d',toks:=t'}:=by
 rintro⟨m,⟨o,es,ep,ho,r⟩,_⟩:id I.loc;rintro⟨sl,hL⟩:u.any ho I.free λz=>(hch _ z).2.1 rfl
 exact I.step (ch:=ch) hch (λb o hL hb hc e n=>u.keep b o e n (λz=>(mem_cons.mp (I.Ge b z)).elim hL hb) hc) (λb o _ _ hc e n=>u.any e n hc) (λb o hc e n=>u.free b o e n hc) (λb o hc e=>u.there b o e hc) u.Jk u.IP u.Ig (λm' hm=>by
  rintro⟨o',es',ep',ho',r'⟩:hm;rw[ho]at ho';cases ho'
  exact#[_,es',ep',hL,r']) Aj hg
variable{it:Addr}
theorem Inv.turned(I:∅)(k:∀b o,b≠it->s.heap.get? b=some o->h'.get? b=some o)(hn:H it=none)(hL:it≠X.env.locals)
 (h1:it∈X.ex\/X.s₀.heap.objs.size<=it)(h2:∀x c,X.env.cells.lookup x=some c->c≠it)(h3:∀p∈X.pn++p0,p.1≠it):Inv X p0 Y H {s with heap:=h',toks:=t'}:=by
 have nit:∀b u,H b=some u->b≠it:=λb u e z=>by rw[z,hn]at e;cases e
 refine I.step (g':=s.gens) (d':=s.drawn) (ch:=[it]) (λb hb=>?_) (λb o _ _ hc e _=>k b o (λz=>hc (by simp[z])) e) (λb o _ _ hc e _=>#[o.slots,k b o (λz=>hc (by simp[z])) e]) (λ_ _ _ _ n=>n)
  (λb o hc e=>#[o,k b o (λz=>hc (by simp[z])) e]) (λ_ _ e=>e) (λ_ _ _ e=>e) (λb ps e=>#[[].toArray,by rw[e];simp]) (λm hm=>?_) (λb u e=>?_) I.bare
 .have e:b=it:=by simpa using hb
  subst e;exact#[h1,hL,h2,h3]
 .obtain⟨o,es,ep,ho,r⟩:=hm;exact#[o,es,ep,k _ o (Ne.symm hL) ho,r]
 .refine(I.Aj b u e).GZ (λc v hc q=>k c v ?_ q) (λ_ q=>q) λ_ _ q=>q
  rcases hc with z|z
  .rw[z];exact nit b u e
  .exact nit c _ z
theorem Inv.tok(I:∅)(t:Nat):Inv X p0 Y H {s with toks:=t}:=I.un (h':=s.heap) (t':=t) Un.refl I.Aj
theorem Inv.kept(I:∅)(k:∀b u,s.heap.get? b=some u->h'.get? b=some u):Inv X p0 Y H {s with heap:=h',toks:=t'}:=I.un (Un.kept k) (I.Aj.kept k)
theorem Inv.laid{a:Addr}(I:∅)(k:∀b u,s.heap.get? b=some u->h'.get? b=some u)(hp:s.heap.objs.size<=a)(new:Br X.prog X.w (upd H a o) h' a o):
 Inv X p0 Y (upd H a o) {s with heap:=h',toks:=t'}:=I.un (Un.laid k hp (I.Aj.fresh hp)) (I.Aj.laid k hp new)
theorem Inv.write{e:Addr}(I:∅)(mu:ZO (H x))(he:e=x\/H e=some (.own x))(k:∀b u,b≠e->s.heap.get? b=some u->h'.get? b=some u)(heo:∃u,h'.get? e=some u)
 (new:Br X.prog X.w (upd H x o) h' x o):Inv X p0 Y (upd H x o) {s with heap:=h',toks:=t'}:=I.un (Un.write mu he k heo) (I.Aj.write mu he k heo new)
theorem Inv.D4{pins':Oa}(I:∅)(h:∀p∈pins',s.heap.get? p.1=some p.2/\H p.1=none/\p.1≠X.env.locals/\p.1∉X.fs/\∀v,p.2.data≠.cell v):Inv X pins' Y H s:=
 #[I.ok,I.os,I.bare,I.base,I.loc,I.cell,I.free,I.Ey,λp hp=>(mZ hp).elim (λz=>I.pin p (mL z)) (h p),I.Aj,I.len]
variable{j:Nat}
theorem JK{N:List Str}(hN:N.Nodup){i:Nat}{x:Str}(a:N[i]? =some x)(b:N[j]? =some x):i=j:=by
 rintro⟨h1,e1⟩:List.getElem?_eq_some_iff.mp a;rintro⟨h2,e2⟩:List.getElem?_eq_some_iff.mp b;exact(List.getElem_inj hN).mp (e1.trans e2.symm)
variable{M:Model}
theorem Hq{A:Around}{E:Va}{i:Nat}{x:Str}{Q:Unit->Shared->Prop}(I:∅)(hN:X.N.Nodup)(hi:X.N[i]? =some x)(hx:Loc X.env.scope x)(r:RelV v u)
 (h:∀s',Inv X p0 (Y.set i (some v)) H s'->(∃a,Heap.SameBut a s.heap s'.heap/\(a=X.env.locals\/X.env.cells.lookup x=some a))->Q () s')(hf:X.fn x=true\/X.env.scope.names.lookup x=some .local:=by first|exact .inl rfl|exact .inr rfl|assumption):wpAny M A (storeName X.env x u) Q E s:=by
 rintro⟨m,hn,hl⟩:id I.loc;have hcls:(X.env.scope.kind == .class || (X.env.scope.kind == .module && X.env.locals != X.env.globals))=false:=by rw[I.ok.kind];rfl
 have hiY:i < Y.length:=by rw[I.len];exact(List.getElem?_eq_some_iff.mp hi).1
 have UM:=I.UM
 have tracked:∀{a:Addr} {h':Heap},(∃o,s.heap.get? a=some o/\H a=none)->Heap.SameBut a s.heap h'->DC X.prog X.w H h':=λ{a h'} ha hs b ob e=>by
  rintro⟨_,_,hfree⟩:ha;refine(I.Aj b ob e).GZ (λc w' hc q=>(hs.2 c ?_).trans q) (λ_ q=>q) λ_ _ q=>q
  rintro rfl
  rcases hc with rfl|hc
  .rw[hfree]at e;cases e
  .rw[hfree]at hc;cases hc
 rcases hx with hk|hk
 .refine wpAny_storeName_local hk hn (λh' hn' hs=>?_) hcls;rintro⟨oL,_,_,hoL,_⟩:id hn;refine h _ #[I.ok,I.os,I.bare,#[λb o e n hb hx=>?_,λb o e n hb hx=>?_,I.base.free,λb o e hx=>?_,I.base.Jk,I.base.IP,I.base.Ig],#[_,hn',λj y v' e1 e2 e3=>?_],λy c e=>?_,I.free,I.Ey,λp hp=>?_,tracked #[oL,hoL,I.free] hs,by simpa using I.len] #[_,hs,.inl rfl]
  .exact(hs.2 b (Nat.ne_of_lt (Nat.lt_of_lt_of_le (hZ e) I.ok.above))).trans (I.base.keep b o e n hb hx)
  .obtain⟨sl,e1⟩:=I.base.slot b o e n hb hx;exact#[sl,(hs.2 b (Nat.ne_of_lt (Nat.lt_of_lt_of_le (hZ e) I.ok.above))).trans e1]
  .obtain⟨o',e1⟩:=I.base.there b o e hx;exact#[o',(hs.2 b (Nat.ne_of_lt (Nat.lt_of_lt_of_le (hZ e) I.ok.above))).trans e1]
  .by_cases hj:j=i
   .subst hj;rw[hi]at e1;cases e1;rw[List.getElem?_set_self hiY]at e2;cases e2;exact#[u,r,.inl #[hk,by simp]]
   .rw[List.getElem?_set_ne (Ne.symm hj)]at e2;rintro⟨u',r',q⟩:hl j y v' e1 e2 e3;refine#[u',r',?_];rcases q with⟨k,e⟩|⟨k,c,e,z⟩
    .refine .inl #[k,?_];have:y≠x:=λe=>hj (JK hN e1 (e▸hi))
     simp[this,e]
    .exact .inr #[k,c,e,z.sameBut hs (UM y c e)]
  .obtain⟨w',z⟩:=I.cell y c e;exact#[w',z.sameBut hs (UM y c e)]
  .obtain⟨e,n,ne,nf,d⟩:=I.pin p hp;exact#[(hs.2 p.1 ne).trans e,n,ne,nf,d]
 .have hfn:X.fn x=true:=by
   rcases hf with z|z
   .exact z
   .rw[z]at hk;cases hk
  rintro⟨c,hc⟩:I.ok.has x (.inl hk);rintro⟨w',z⟩:I.cell x c hc;refine wpAny_storeName_cell I.ok.kind hk hc z (λh' hc' hs=>?_);rintro⟨oc,hoc,hocd⟩:id z;refine h {s with heap:=h'} #[I.ok,I.os,I.bare,#[λb o e n hb hx=>?_,λb o e n hb hx=>?_,I.base.free,λb o e hx=>?_,I.base.Jk,I.base.IP,I.base.Ig],#[m,hn.sameBut hs (Ne.symm (UM x c hc)),λj y v' e1 e2 e3=>?_],λy c' e=>?_,I.free,I.Ey,λp hp=>?_,tracked #[oc,hoc,I.Ey x c hc] hs,by simpa using I.len] #[c,hs,.inr hc]
  .exact(hs.2 b (Nat.ne_of_lt (Nat.lt_of_lt_of_le (hZ e) (I.ok.ai x c hfn hc)))).trans (I.base.keep b o e n hb hx)
  .obtain⟨sl,e1⟩:=I.base.slot b o e n hb hx;exact#[sl,(hs.2 b (Nat.ne_of_lt (Nat.lt_of_lt_of_le (hZ e) (I.ok.ai x c hfn hc)))).trans e1]
  .obtain⟨o',e1⟩:=I.base.there b o e hx;exact#[o',(hs.2 b (Nat.ne_of_lt (Nat.lt_of_lt_of_le (hZ e) (I.ok.ai x c hfn hc)))).trans e1]
  .by_cases hj:j=i
   .subst hj;rw[hi]at e1;cases e1;rw[List.getElem?_set_self hiY]at e2;cases e2;exact#[u,r,.inr #[.inl hk,c,hc,hc']]
   .rw[List.getElem?_set_ne (Ne.symm hj)]at e2;rintro⟨u',r',q⟩:hl j y v' e1 e2 e3;refine#[u',r',?_];rcases q with q|⟨k,c',e,z'⟩
    .exact .inl q
    .refine .inr #[k,c',e,z'.sameBut hs ?_]
     rintro rfl
     exact hj (JK hN e1 (I.ok.inj _ _ _ e hc▸hi))
  .by_cases hcc:c'=c
   .subst hcc;exact#[_,hc']
   .obtain⟨w2,z2⟩:=I.cell y c' e;exact#[w2,z2.sameBut hs hcc]
  .obtain⟨e,n,ne,nf,d⟩:=I.pin p hp;refine#[(hs.2 p.1 ?_).trans e,n,ne,nf,d];intro q;rw[q,hoc]at e;have q':oc=p.2:=Option.some.inj e;exact d w' (by rw[<-q'];exact hocd)
theorem Jv{A:Around}{E:Va}{i:Nat}{x:Str}{Q:Unit->Shared->Prop}(I:∅)(hN:X.N.Nodup)(hi:X.N[i]? =some x)(hx:Loc X.env.scope x)(r:RelV v u)
 (h:∀s',Inv X p0 (Y.set i (some v)) H s'->Q () s')(hf:X.fn x=true\/X.env.scope.names.lookup x=some .local:=by first|exact .inl rfl|exact .inr rfl|assumption):wpAny M A (storeName X.env x u) Q E s:=
 Hq I hN hi hx r (λs' I' _=>h s' I') hf
theorem Inv.ZF{s':Shared}(I:∅)(ho:s'.os=s.os)(u:Un (Lk X.stack) ch H H' s.heap s'.heap)(Aj:DC X.prog X.w H' s'.heap)(hg:AllBare s'.gens)
 (hch:∀b∈ch,(b∈X.ex\/X.s₀.heap.objs.size<=b)/\b≠X.env.locals/\(∀x c,X.env.cells.lookup x=some c->c≠b)/\∀p∈X.pn++p0,p.1≠b):Inv X p0 Y H' s':=by
 rintro⟨h',g',d',t',o'⟩:s';have e:o'=s.os:=ho;subst e;exact I.call (g':=g') (t':=t') (d':=d') u Aj hg hch
abbrev XK:=Value->V->Hp->Prop
abbrev St:=List (Option V)
abbrev VK:=V->Hp->Prop
abbrev TE:=St->Hp->VK->Prop
abbrev TT:=St->Hp->(Bool->Hp->Prop)->Prop
abbrev TA:=St->Hp->(List V->Hp->Prop)->Prop
structure Ends where
 nx:St->Hp->Prop
 rt:VK
 bk:St->Hp->Prop:=λ_ _=>False
 ct:St->Hp->Prop:=λ_ _=>False
abbrev TS:=Ends->St->Hp->Prop
def EP(X:Cx)(p0:Oa)(Y:St)(Q:VK)(u:Value)(s':Shared):Prop:=∃v H',Inv X p0 Y H' s'/\RelV v u/\Q v H'
def TP(X:Cx)(p0:Oa)(Y:St)(Q:Bool->Hp->Prop)(b:Bool)(s':Shared):Prop:=∃H',Inv X p0 Y H' s'/\Q b H'
def AP(X:Cx)(p0:Oa)(Y:St)(Q:List V->Hp->Prop)(us:List Value)(s':Shared):Prop:=∃vs H',Inv X p0 Y H' s'/\Vals vs us/\Q vs H'
def SP(X:Cx)(p0:Oa)(D:Ends)(f:Flow)(s':Shared):Prop:=
 match f with
 |.next=>∃Y' H',Inv X p0 Y' H' s'/\D.nx Y' H'
 |.brk=>∃Y' H',Inv X p0 Y' H' s'/\D.bk Y' H'
 |.cont=>∃Y' H',Inv X p0 Y' H' s'/\D.ct Y' H'
 |.ret u=>∃v Y' H',Inv X p0 Y' H' s'/\RelV v u/\D.rt v H'
def PE(X:Cx)(e:Expr)(t:TE):Prop:=
 ∀(p0:Oa) (s:Shared) (Y:St) (H:Hp) (Q:VK),∅->t Y H Q->(X|||(eval e X.env)) (EP X p0 Y Q) X.xe s
def PT(X:Cx)(e:Expr)(t:TT):Prop:=
 ∀(p0:Oa) (s:Shared) (Y:St) (H:Hp) (Q:Bool->Hp->Prop),∅->t Y H Q->(X|||(isTrue e X.env (eval e X.env))) (TP X p0 Y Q) X.xe s
def PW(X:Cx)(e:Expr)(t:TT):Prop:=
 ∀(whole:Sem Value) (p0:Oa) (s:Shared) (Y:St) (H:Hp) (Q:Bool->Hp->Prop),∅->t Y H Q->(X|||(isTrue e X.env whole)) (TP X p0 Y Q) X.xe s
variable{X:Cx}
theorem PW.pt{t:TT}(h:PW X e t):PT X e t:=h _
def PA(X:Cx)(es:List Expr)(t:TA):Prop:=
 ∀(pos:Pos) (p0:Oa) (s:Shared) (Y:St) (H:Hp) (Q:List V->Hp->Prop),∅->t Y H Q->(X|||(spliced (backTo pos (starEach es X.env)))) (AP X p0 Y Q) X.xe s
def PS(X:Cx)(st:Stmt)(t:TS):Prop:=
 ∀(p0:Oa) (s:Shared) (Y:St) (H:Hp) (D:Ends),∅->t D Y H->(X|||(exec st X.env)) (SP X p0 D) X.xe s
def NJ(X:Cx)(st:List Stmt)(t:TS):Prop:=
 ∀(p0:Oa) (s:Shared) (Y:St) (H:Hp) (D:Ends),∅->t D Y H->(X|||(execs st X.env)) (SP X p0 D) X.xe s
variable{s:Shared}
theorem AS{α:Type}{t:Sem α}{Q Q':α->Shared->Prop}{A:Around}{E:Va}(h:wpAny M A t Q E s)(hQ:∀a s,Q a s->Q' a s):wpAny M A t Q' E s:=wpAny_mono h hQ λ_ _ x=>x
section
variable{p0:Oa}{s:Shared}{H:Hp}
theorem bin{ta tb:TE}(ha:PE X a ta)(hb:PE X b tb){Y:St}{R:V->V->Hp->Prop}(I:∅)(h:ta Y H λx H1=>tb Y H1 λy H2=>R x y H2)
 {α:Type}{Q:α->Shared->Prop}{f:Value->Value->Sem α}
 (hf:∀v u s2 x y H2,Inv X p0 Y H2 s2->RelV x v->RelV y u->R x y H2->(X|||(f v u)) Q X.xe s2):
 (X|||(eval a X.env)) (λv s₁=>(X|||(eval b X.env)) (λu s₂=>(X|||(f v u)) Q X.xe s₂) X.xe s₁) X.xe s:=by
 refine AS (ha p0 s Y H _ I h) λv s1 ⟨x,H1,I1,r1,q1⟩=>?_
 refine AS (hb p0 s1 Y H1 _ I1 q1) λu s2 ⟨y,H2,I2,r2,q2⟩=>?_
 exact hf v u s2 x y H2 I2 r1 r2 q2
def EO(i:Nat):TE:=λY H Q=>∃v,Y[i]? =some (some v)/\Q v H
def tC(v:V):TE:=λ_ H Q=>Q v H
variable{pos:Pos}
theorem OM{i:Nat}{x:Str}(hN:X.N[i]? =some x)(hv:ak X.env.scope x)(hd:ng x:=by decide)(hcd:(x == ("__classdict__":Str))=false:=by decide):PE X (.Name x pos) (EO i):=by
 intro p0 s Y H Q I h;rintro⟨v,e,h⟩:h;rintro⟨m,hn,hl⟩:I.loc;rintro⟨u,r,l⟩:hl i x v hN e hv;have fin:EP X p0 Y Q u s:=#[v,H,I,r,h];rcases l with⟨hk,hm⟩|⟨hk,c,hc,hcell⟩
 .exact wpAny_Name (wpAny_loadName_local I.ok.kind hk hn hm fin) hd
 .rcases hk with hk|hk
  .exact wpAny_Name (wpAny_loadName_cell I.ok.kind hk hc hcell fin) hd
  .exact wpAny_Name (wpAny_loadName_free I.ok.kind hk hc hcell fin hcd) hd
theorem VT{i j pos}:PE X (.Constant (.int i) j pos) (tC (.int i)):=λ_ _ _ H _ I h=>wpAny_Constant_int #[.int i,H,I.tok _,#[_,rfl],h]
theorem YT{b j pos}:PE X (.Constant (.bool b) j pos) (tC (.bl b)):=λ_ _ _ H _ I h=>Constant_bool #[.bl b,H,I,rfl,h]
theorem VR{j pos}:PE X (.Constant .none j pos) (tC .AG):=λ_ _ _ H _ I h=>Constant_none #[.AG,H,I,rfl,h]
theorem VP{x j pos}:PE X (.Constant (.str x) j pos) (tC (.str x)):=λ_ _ _ H _ I h=>Calls.Constant_str #[.str x,H,I.tok _,#[_,rfl],h]
def Gl(X:Cx)(x:Str):Prop:=X.env.kindOf x=some .globalImplicit
theorem G0{E:Va}{Y:St}{u:Value}{Q:Va}(I:∅)(hg:Gl X x)(hm:X.mg x=some u)(h:Q u s)
 (hd:ng x:=by decide):(X|||(eval (.Name x pos) X.env)) Q E s:=
 Calls.Name_function_global I.ok.kind hg (Calls.loadGlobal_global (by rw[I.ok.glob];exact I.mod.glob.keeps I.bk) hm h) hd
theorem CJ{E:Va}{Y:St}{u:Value}{Q:Va}(I:∅)(hg:Gl X x)(hm:X.mg x=none)(hv:bootBuiltins x=some u)(h:Q u s)
 (hn:x≠"__name__":=by decide)(hd:ng x:=by decide):(X|||(eval (.Name x pos) X.env)) Q E s:=by
 rintro⟨mb,h1,h2⟩:I.mod.blt;exact Calls.Name_function_global I.ok.kind hg (Calls.loadGlobal_builtin (by rw[I.ok.glob];exact I.mod.glob.keeps I.bk) hm (by rw[I.ok.blt];exact h1.keeps I.bk) ((h2 x hn).trans hv) h) hd
theorem Ma{u:Value}(hg:Gl X x)(hm:X.mg x=some u)(r:RelV v u)(hd:ng x:=by decide):PE X (.Name x pos) (tC v):=
 λ_ _ _ H _ I h=>G0 I hg hm #[v,H,I,r,h] hd
theorem RZ{u:Value}(hg:Gl X x)(hm:X.mg x=none)(hv:bootBuiltins x=some u)(r:RelV v u)(hn:x≠"__name__":=by decide)(hd:ng x:=by decide):PE X (.Name x pos) (tC v):=
 λ_ _ _ H _ I h=>CJ I hg hm hv #[v,H,I,r,h] hn hd
variable{a b:Expr}{ta tb:TE}{pos:Pos}
variable{tA tB':TT}{rest:List Expr}
def Yx(t u:TT):TT:=λY H Q=>t Y H λc H1=>if c=true then u Y H1 Q else Q false H1
def cL(t u:TT):TT:=λY H Q=>t Y H λc H1=>if c=true then Q true H1 else u Y H1 Q
def Yu(t:TT):TT:=λY H Q=>t Y H λc H1=>Q (!c) H1
theorem RN(ha:PT X a tA):PW X (.BoolOp .And [a] pos) tA:=by
 intro wh p0 s Y H Q I h;refine isTrue_and (AS (ha p0 s Y H Q I h) λc s1 e=>?_);cases c with
 |true=>exact isTrue_and_nil e
 |false=>exact e
theorem VH(ha:PT X a tA):PW X (.BoolOp .Or [a] pos) tA:=by
 intro wh p0 s Y H Q I h;refine isTrue_or (AS (ha p0 s Y H Q I h) λc s1 e=>?_);cases c with
 |false=>exact isTrue_or_nil e
 |true=>exact e
theorem VI(ha:PT X a tA)(hb:PW X (.BoolOp .And (b::rest) pos) tB'):PW X (.BoolOp .And (a::b::rest) pos) (Yx tA tB'):=by
 intro wh p0 s Y H Q I h;refine isTrue_and (AS (ha p0 s Y H _ I h) λc s1 ⟨H1,I1,q1⟩=>?_);cases c with
 |true=>exact hb wh p0 s1 Y H1 Q I1 q1
 |false=>exact#[H1,I1,q1]
theorem YM(ha:PT X a tA)(hb:PW X (.BoolOp .Or (b::rest) pos) tB'):PW X (.BoolOp .Or (a::b::rest) pos) (cL tA tB'):=by
 intro wh p0 s Y H Q I h;refine isTrue_or (AS (ha p0 s Y H _ I h) λc s1 ⟨H1,I1,q1⟩=>?_);cases c with
 |true=>exact#[H1,I1,q1]
 |false=>exact hb wh p0 s1 Y H1 Q I1 q1
theorem VJ(ha:PT X a tA):PT X (.UnaryOp .Not a pos) (Yu tA):=by
 intro p0 s Y H Q I h;exact isTrue_not (ha p0 s Y H (λc H1=>Q (!c) H1) I h)
def Ua(ta tb:TE):TE:=λY H Q=>ta Y H λx H1=>∃c,x= .bl c/\if c=true then tb Y H1 Q else Q (.bl false) H1
def Yt(ta tb:TE):TE:=λY H Q=>ta Y H λx H1=>∃c,x= .bl c/\if c=true then Q (.bl true) H1 else tb Y H1 Q
def U7(ta:TE):TE:=λY H Q=>ta Y H λx H1=>∃c,x= .bl c/\Q (.bl (!c)) H1
theorem ON{op}{t:TE}(h:PE X a t):PE X (.BoolOp op [a] pos) t:=λp0 s Y H Q I hw=>BoolOp_one (h p0 s Y H Q I hw)
theorem VU(ha:PE X a ta)(hb:PE X (.BoolOp .And (b::rest) pos) tb):PE X (.BoolOp .And (a::b::rest) pos) (Ua ta tb):=by
 intro p0 s Y H Q I h;refine BoolOp_and (AS (ha p0 s Y H _ I h) λv s1 ⟨x,H1,I1,r1,q1⟩=>?_);rintro⟨c,rfl,q1⟩:q1;cases r1;refine wpAny_truthy_bool ?_;cases c with
 |true=>exact hb p0 s1 Y H1 Q I1 q1
 |false=>exact#[.bl false,H1,I1,rfl,q1]
theorem YQ(ha:PE X a ta)(hb:PE X (.BoolOp .Or (b::rest) pos) tb):PE X (.BoolOp .Or (a::b::rest) pos) (Yt ta tb):=by
 intro p0 s Y H Q I h;refine BoolOp_or (AS (ha p0 s Y H _ I h) λv s1 ⟨x,H1,I1,r1,q1⟩=>?_);rintro⟨c,rfl,q1⟩:q1;cases r1;refine wpAny_truthy_bool ?_;cases c with
 |false=>exact hb p0 s1 Y H1 Q I1 q1
 |true=>exact#[.bl true,H1,I1,rfl,q1]
theorem VQ(ha:PE X a ta):PE X (.UnaryOp .Not a pos) (U7 ta):=by
 intro p0 s Y H Q I h;refine UnaryOp_ (AS (ha p0 s Y H _ I h) λv s1 ⟨x,H1,I1,r1,q1⟩=>?_);rintro⟨c,rfl,q1⟩:q1;cases r1;exact not_of (wpAny_truthy_bool #[.bl (!c),H1,I1,rfl,q1])
def cO(t:TT)(ta tb:TE):TE:=λY H Q=>t Y H λc H1=>if c=true then ta Y H1 Q else tb Y H1 Q
theorem OO(hc:PT X c tA)(ha:PE X a ta)(hb:PE X b tb):PE X (.IfExp c a b pos) (cO tA ta tb):=by
 intro p0 s Y H Q I h;refine wpAny_IfExp (AS (hc p0 s Y H _ I h) λd s1 ⟨H1,I1,q1⟩=>?_);cases d with
 |true=>exact ha p0 s1 Y H1 Q I1 q1
 |false=>exact hb p0 s1 Y H1 Q I1 q1
end
def DO(K:Frag)(H:Hp)(a:Addr)(xs:List V):Prop:=
 Rd H a (.lst xs)\/
  ∃(o:Obj) (its:Array Value) (n:Nat),K.lookup a=some o/\o.cls= .type "list"/\o.dict=none/\o.data= .seq its n/\its.size<=sizeLine/\Vals xs its.toList
def D1(K:Frag)(H:Hp)(a:Addr)(xs:List V):Prop:=
 Rd H a (.tup xs)\/
  ∃(o:Obj) (its:Array Value) (n:Nat),K.lookup a=some o/\o.cls= .type "tuple"/\o.data= .seq its n/\its.size<=sizeLine/\Vals xs its.toList
def c9:Value->Option V
 |.none=>some .AG
 |.bool b=>some (.bl b)
 |.int i _=>some (.int i)
 |.str x _=>some (.str x)
 |.bytes b _=>some (.XI b)
 |.float b _=>some (.a9 b)
 |.ref a=>some (.ref a)
 |.type n=>some (.ty n)
 |_=>none
theorem RelV.abs(r:RelV x u):c9 u=some x:=by
 cases x with
 |AG=>cases r;rfl
 |bl _=>cases r;rfl
 |int _=>rintro⟨t,rfl⟩:r;rfl
 |str _=>rintro⟨t,rfl⟩:r;rfl
 |XI _=>rintro⟨t,rfl⟩:r;rfl
 |a9 _=>rintro⟨t,rfl⟩:r;rfl
 |ref _=>cases r;rfl
 |ty _=>cases r;rfl
theorem RelV.inj(r:RelV x u)(q:RelV y u):x=y:=Option.some.inj (r.abs.symm.trans q.abs)
theorem Vals.inj:∀{xs ys:List V} {us:List Value},Vals xs us->Vals ys us->xs=ys
 |_,_,_,.nil,.nil=>rfl
 |_,_,_,.cons r t,.cons r' t'=>by rw[r.inj r',Vals.inj t t']
section
variable{Y:St}{a:Addr}{xs ys:List V}
theorem DO.of{K:Frag}(h:H a=some (.lst xs)):DO K H a xs:=.inl (.inl h)
theorem D1.of{K:Frag}(h:H a=some (.tup xs)):D1 K H a xs:=.inl (.inl h)
theorem Inv.list(I:∅)(h:DO X.K H a xs):∃its:List Value,Vals xs its/\PlainL s.heap a its.toArray/\xs.length<=sizeLine:=by
 rcases h with h|⟨o,its,n,hk,hc,hd,hs,hz,r⟩
 .obtain⟨z,its,n,r,e⟩:=h.ok I.Aj;exact#[its,r,#[_,n,e,rfl,rfl,rfl],z]
 .refine#[its.toList,r,#[o,n,I.Gz a o hk,hc,hd,by simpa using hs],?_];have e:=r.length;simp only[Array.length_toList]at e
  lia
theorem Inv.tuple(I:∅)(h:D1 X.K H a xs):∃its:List Value,Vals xs its/\IsTup s.heap a its.toArray/\xs.length<=sizeLine:=by
 rcases h with h|⟨o,its,n,hk,hc,hs,hz,r⟩
 .obtain⟨z,its,r,p⟩:=h.ok I.Aj;exact#[its,r,p,z]
 .refine#[its.toList,r,#[o,I.Gz a o hk,hc,n,by simpa using hs],?_];have e:=r.length;simp only[Array.length_toList]at e
  lia
theorem Inv.JR(I:∅)(h:DO X.K H a xs)(h':DO X.K H a ys):xs=ys:=by
 rintro⟨its,r,⟨o,n,e,_,_,d⟩,_⟩:I.list h;rintro⟨its',r',⟨o',n',e',_,_,d'⟩,_⟩:I.list h';rw[e]at e';cases e';rw[d]at d';injection d' with d1 _
 have:its=its':=by simpa using congrArg Array.toList d1
 subst this;exact r.inj r'
theorem Inv.EM(I:∅)(h:D1 X.K H a xs)(h':D1 X.K H a ys):xs=ys:=by
 rintro⟨its,r,⟨o,e,_,n,d⟩,_⟩:I.tuple h;rintro⟨its',r',⟨o',e',_,n',d'⟩,_⟩:I.tuple h';rw[e]at e';cases e';rw[d]at d';injection d' with d1 _
 have:its=its':=by simpa using congrArg Array.toList d1
 subst this;exact r.inj r'
end
section
variable{st:Stmt}{rest:List Stmt}{t u:TS}{e:Expr}{te:TE}{pos:Pos}
def U8:TS:=λD Y H=>D.nx Y H
def Ys(t u:TS):TS:=λD Y H=>t {D with nx:=u D} Y H
theorem RP:NJ X [] U8:=λ_ _ Y H _ I h=>wpAny_execs_nil #[Y,H,I,h]
theorem OB(h1:PS X st t)(h2:NJ X rest u):NJ X (st::rest) (Ys t u):=by
 intro p0 s Y H D I h;refine wpAny_execs_cons (AS (h1 p0 s Y H {D with nx:=u D} I h) λf s1 q=>?_);cases f with
 |next=>
   rintro⟨Y',H',I',q⟩:q;exact h2 p0 s1 Y' H' D I' q
 |ret v=>exact q
 |brk=>exact q
 |cont=>exact q
theorem Inv.quiet{p0:Oa}{Y:St}{H:Hp}{s:Shared}(I:∅):interactive X.env=false:=by simp[interactive,I.ok.kind]
def Jq(te:TE):TS:=λD Y H=>te Y H λ_ H1=>D.nx Y H1
theorem Ej(he:PE X e te)(hs:swapsWith e none pos.line X.env=pure false:=by rfl):PS X (.Expr e pos) (Jq te):=by
 intro p0 s Y H D I h;exact wpAny_Expr_any (AS (he p0 s Y H _ I h) λv s1 ⟨x,H1,I1,r1,q1⟩=>#[Y,H1,I1,q1]) I.quiet hs
def Vb(te:TE):TS:=λD Y H=>te Y H D.rt
theorem OD(he:PE X e te):PS X (.Return (some e) pos) (Vb te):=by
 intro p0 s Y H D I h;exact wpAny_Return_some (AS (he p0 s Y H _ I h) λv s1 ⟨x,H1,I1,r1,q1⟩=>#[x,Y,H1,I1,r1,q1])
def U6:TS:=λD _ H=>D.rt .AG H
theorem RQ:PS X (.Return none pos) U6:=λ_ _ Y H _ I h=>wpAny_Return_none #[.AG,Y,H,I,rfl,h]
def Yw(c:TT)(t u:TS):TS:=λD Y H=>c Y H λb H1=>if b=true then t D Y H1 else u D Y H1
theorem YN{a b:List Stmt}{tc:TT}(hc:PT X c tc)(ha:NJ X a t)(hb:NJ X b u):PS X (.If c a b pos) (Yw tc t u):=by
 intro p0 s Y H D I h;refine wpAny_If (AS (hc p0 s Y H _ I h) λd s1 ⟨H1,I1,q1⟩=>?_);cases d with
 |true=>exact ha p0 s1 Y H1 D I1 q1
 |false=>exact hb p0 s1 Y H1 D I1 q1
end
abbrev TG:=V->St->Hp->(St->Hp->Prop)->Prop
abbrev QS:=List V->St->Hp->(St->Hp->Prop)->Prop
def PG(X:Cx)(target:Expr)(t:TG):Prop:=
 ∀ (p0:Oa) (s:Shared) (Y:St) (H:Hp) (v:V) (u:Value) (Q:St->Hp->Prop),∅->RelV v u->t v Y H Q->
   (X|||(assign target X.env u)) (λ_ s'=>∃Y' H',Inv X p0 Y' H' s'/\Q Y' H') X.xe s
def XN(X:Cx)(ts:List Expr)(t:QS):Prop:=
 ∀ (p0:Oa) (s:Shared) (Y:St) (H:Hp) (vs:List V) (us:List Value) (Q:St->Hp->Prop),∅->Vals vs us->t vs Y H Q->
   (X|||(assignInOrder ((assignEach ts X.env).map (·.2)) us)) (λ_ s'=>∃Y' H',Inv X p0 Y' H' s'/\Q Y' H') X.xe s
abbrev QH:=V->V->V->Hp->(Hp->Prop)->Prop
def TM(X:Cx)(t:QH):Prop:=
 ∀ (p0:Oa) (s:Shared) (Y:St) (H:Hp) (o i v:V) (ov iv u:Value) (Q:Hp->Prop),∅->RelV o ov->RelV i iv->RelV v u->t o i v H Q->
   (X|||(setItem ov iv u)) (λ_ s'=>∃H',Inv X p0 Y H' s'/\Q H') X.xe s
variable{pos:Pos}
def Ew(i:Nat):TG:=λv Y H Q=>Q (Y.set i (some v)) H
theorem M9{i:Nat}{x:Str}(hN:X.N.Nodup)(hi:X.N[i]? =some x)(hx:Loc X.env.scope x)(hf:X.fn x=true\/X.env.scope.names.lookup x=some .local:=by first|exact .inl rfl|exact .inr rfl|assumption):PG X (.Name x pos) (Ew i):=by
 intro p0 s Y H v u Q I r h;exact wpAny_assign_Name (Jv I hN hi hx r (λs' I'=>#[_,H,I',h]) hf)
def Zx:QS:=λvs Y H Q=>vs=[]/\Q Y H
def UD(t:TG)(u:QS):QS:=λvs Y H Q=>∃v r,vs=v::r/\t v Y H λY' H'=>u r Y' H' Q
theorem RX:XN X [] Zx:=by
 intro p0 s Y H vs us Q I r h;rintro⟨e,h⟩:h;subst e;cases r;exact assignInOrder_nil #[Y,H,I,h]
theorem OI{es:List Expr}{t:TG}{u:QS}(h1:PG X e t)(h2:XN X es u)
 (hs:(assignEach (e::es) X.env).map (·.2)=assign e X.env::(assignEach es X.env).map (·.2):=by rfl):XN X (e::es) (UD t u):=by
 intro p0 s Y H vs us Q I r h;rintro⟨v,vr,e1,h⟩:h;subst e1;cases r with
 |cons r rr=>
   rw[hs];refine assignInOrder_cons (AS (h1 p0 s Y H _ _ _ I r h) λ_ s1 ⟨Y1,H1,I1,q1⟩=>?_);exact h2 p0 s1 Y1 H1 _ _ Q I1 rr q1
def WY(K:Frag)(n:Nat)(t:QS):TG:=λv Y H Q=>∃a xs,v= .ref a/\D1 K H a xs/\xs.length=n/\t xs Y H Q
theorem OJ{es:List Expr}{k:Nat}{t:QS}{n:Nat}(hc:X.calm=true)(h:XN X es t)
 (hn:(assignEach es X.env).length=n:=by rfl)(hst:(assignEach es X.env).findIdx? (·.1)=none:=by rfl):PG X (.Tuple es k pos) (WY X.K n t):=by
 intro p0 s Y H v u Q I r hw;rintro⟨a,xs,e1,hq,hl,hw⟩:hw;subst e1;cases r;rintro⟨its,rv,ht,hz⟩:I.tuple hq;refine assign_Tuple_tuple (I.ok.hd hc) ht (by simp[hn,<-hl,rv.length]) hst λh' hx=>?_
 have I1:Inv X p0 Y H {s with heap:=h'}:=I.kept (t':=s.toks) λb o e=>hx b o (Nat.ne_of_lt (hZ e)) e
 exact h p0 _ Y H xs _ Q I1 (by simpa using rv) hw
def Zw(to ti:TE)(t:QH):TG:=λv Y H Q=>to Y H λo H1=>ti Y H1 λi H2=>t o i v H2 λH3=>Q Y H3
theorem OK{to ti:TE}{t:QH}(ho:PE X o to)(hi:PE X i ti)(hs:TM X t)
 (ha:∀v,assign (.Subscript o i pos) X.env v=(do
  let ov <-holding [v] (eval o X.env)
  let iv <-holding [v,ov] (eval i X.env)
  standAt pos
  holding [v,ov,iv] (setItem ov iv v)
  release [v,ov,iv] []):=by intro _;rfl):PG X (.Subscript o i pos) (Zw to ti t):=by
 intro p0 s Y H v u Q I r h;rw[ha];refine wB (wpAny_holding (AS (ho p0 s Y H _ I h) λov s1 ⟨x,H1,I1,r1,q1⟩=>?_));refine wB (wpAny_holding (AS (hi p0 s1 Y H1 _ I1 q1) λiv s2 ⟨y,H2,I2,r2,q2⟩=>?_));refine wB (wpAny_standAt (wB (wpAny_holding (AS (hs p0 s2 Y H2 x y v ov iv u _ I2 r1 r2 r q2) λ_ s3 ⟨H3,I3,q3⟩=>?_))));exact wpAny_release #[Y,H3,I3,q3]
def Js(te:TE)(g:TG):TS:=λD Y H=>te Y H λx H1=>g x Y H1 D.nx
variable{te:TE}
theorem KJ{tg:Expr}{g:TG}(he:PE X e te)(hg:PG X tg g)(hs:swapsWithSole [tg] e pos.line X.env=pure false:=by rfl)(hw:swappedStores [tg] e X.env=pure none:=by rfl)
 (h1:(assignEach [tg] X.env).map (·.2)=[assign tg X.env]:=by rfl):PS X (.Assign [tg] e pos) (Js te g):=by
 intro p0 s Y H D I h;refine wpAny_Assign_stores (AS (he p0 s Y H _ I h) λv s1 ⟨x,H1,I1,r1,q1⟩=>?_) hs hw;rw[h1];exact AS (hg p0 s1 Y H1 x v _ I1 r1 q1) λ_ s2 q=>q
theorem KI{i:Nat}{x:Str}{pos':Pos}(hN:X.N.Nodup)(hi:X.N[i]? =some x)(hx:Loc X.env.scope x)(he:PE X e te)(hs:swapsWith e (some (.Name x pos')) pos.line X.env=pure false:=by rfl)(hf:X.fn x=true\/X.env.scope.names.lookup x=some .local:=by first|exact .inl rfl|exact .inr rfl|assumption):
 PS X (.Assign [.Name x pos'] e pos) (Js te (Ew i)):=by
 intro p0 s Y H D I h;refine wpAny_Assign_Name (AS (he p0 s Y H _ I h) λv s1 ⟨y,H1,I1,r1,q1⟩=>?_) hs;exact Jv I1 hN hi hx r1 (λs2 I2=>#[_,H1,I2,q1]) hf
def O4(c:TT)(tb:TS):TS:=λD Y H=>∃W:Nat->St->Hp->Prop,(∃m,W m Y H)/\∀m Y H,W m Y H->
 c Y H λb H1=>if b=true then ∃N:St->Hp->Prop,(∀Y' H',N Y' H'->∃m',m' < m/\W m' Y' H')/\tb {D with nx:=N,ct:=N,bk:=D.nx} Y H1 else D.nx Y H1
variable{body:List Stmt}
theorem OC{tc:TT}{tb:TS}(hp:PassesOwn (model X.prog X.w) X.A X.env X.xe)(hc:PT X c tc)(hb:NJ X body tb):PS X (.While c body [] pos) (O4 tc tb):=by
 intro p0 s Y H D I h;rintro⟨W,⟨m0,w0⟩,turn⟩:h;refine wpAny_While (codeAny_whileLoop (λn s'=>∃Y' H',Inv X p0 Y' H' s'/\W n Y' H') ?_ m0 #[Y,H,I,w0])
 rintro n s1 ⟨Y1,H1,I1,w1⟩
 refine wpAny_passesOwn hp (AS (hc p0 s1 Y1 H1 _ I1 (turn n Y1 H1 w1)) λb s2 ⟨H2,I2,q2⟩=>?_);cases b with
 |true=>
   rintro⟨N,hN,q2⟩:q2;rw[iP rfl];refine wpAny_passesOwn hp (AS (hb p0 s2 Y1 H2 _ I2 q2) λf s3 q3=>?_);cases f with
   |next=>
     rintro⟨Y3,H3,I3,n3⟩:q3;rintro⟨m',hm,w3⟩:hN Y3 H3 n3;exact#[m',hm,Y3,H3,I3,w3]
   |cont=>
     rintro⟨Y3,H3,I3,n3⟩:q3;rintro⟨m',hm,w3⟩:hN Y3 H3 n3;exact#[m',hm,Y3,H3,I3,w3]
   |brk=>exact q3
   |ret v=>exact q3
 |false=>
   rw[iN Bool.false_ne_true];exact wpAny_execs_nil #[Y1,H2,I2,q2]
structure It where
 go:Nat->Hp->Prop
 LN:Nat->Hp->V->Hp->Prop
 stop:Nat->Hp->Prop
def Fe(X:Cx)(p0:Oa)(H:Hp)(b:Addr):Prop:=
 H b=none/\b≠X.env.locals/\b∉X.fs/\(b∈X.ex\/X.s₀.heap.objs.size<=b)/\(∀x c,X.env.cells.lookup x=some c->c≠b)/\∀p∈X.pn++p0,p.1≠b
theorem Inv.Ll{p0:Oa}{Y:St}{H':Hp}{b:Addr}(I:∅)(hb:s.heap.objs.size<=b)(hn:H' b=none):Fe X p0 H' b:=by
 refine#[hn,Nat.ne_of_gt (Nat.lt_of_lt_of_le I.lt hb),I.Wn hb,.inr (Nat.le_trans I.sz hb),λx c e z=>?_,λp hp z=>?_]
 .obtain⟨v,q⟩:=I.cell x c e;exact absurd (Nat.lt_of_lt_of_le q.lt (by rw[z];exact hb)) (Nat.lt_irrefl _)
 .exact absurd (Nat.lt_of_lt_of_le (hZ (I.pin p hp).1) (by rw[z];exact hb)) (Nat.lt_irrefl _)
structure Turn(P:Program)(w:World)(K:Frag)(tg:Expr)(J:It)(fp:List Addr)(it:Addr)(tn:Nat->Heap->Prop):Prop where
 mem:it∈fp
 obj:∀i h,tn i h->∀b∈fp,∃o,h.get? b=some o/\∀v,o.data≠.cell v
 keep:∀i h h',tn i h->(∀b∈fp,∀o,h.get? b=some o->h'.get? b=some o)->tn i h'
 item:∀(X:Cx),X.prog=P->X.w=w->X.K=K->X.calm=true->∀(i:Nat) (p0:Oa) (s:Shared) (Y:St) (H:Hp) (E:Va),∅->(∀b∈fp,Fe X p0 H b)->tn i s.heap->J.go i H->
  wpAny (model P w) X.A (pyNext (.ref it)) (λr s1=>∃u,r=some u/\
   wpAny (model P w) X.A (letOwnedTupleGo tg (.ref it) u) (λ_ s2=>∃x H',Inv X p0 Y H' s2/\RelV x u/\J.LN i H x H'/\tn (i+1) s2.heap/\∀b∈fp,H' b=none) E s1) E s
 done:∀(X:Cx),X.prog=P->X.w=w->X.K=K->X.calm=true->∀(i:Nat) (p0:Oa) (s:Shared) (Y:St) (H:Hp) (E:Va),∅->(∀b∈fp,Fe X p0 H b)->tn i s.heap->J.stop i H->
  wpAny (model P w) X.A (pyNext (.ref it)) (λr s1=>r=none/\Inv X p0 Y H s1) E s
 self:∀(A:Around) (i:Nat) (s:Shared) (Q:Va) (E:Va),tn i s.heap->Q (.ref it) s->wpAny (model P w) A (pyIter (.ref it)) Q E s
abbrev TI:=St->Hp->(It->Hp->Prop)->Prop
def dy(X:Cx)(p0:Oa)(Y:St)(tg:Expr)(R:It->Hp->Prop)(itv:Value)(s2:Shared):Prop:=
 ∃(it:Addr) (fp:List Addr) (tn:Nat->Heap->Prop) (J:It) (H':Hp),itv= .ref it/\Inv X p0 Y H' s2/\Turn X.prog X.w X.K tg J fp it tn/\tn 0 s2.heap/\(∀b∈fp,Fe X p0 H' b)/\R J H'
def PI(X:Cx)(tg iter:Expr)(wi:TI):Prop:=
 ∀ (p0:Oa) (s:Shared) (Y:St) (H:Hp) (R:It->Hp->Prop),∅->wi Y H R->
   (X|||(eval iter X.env)) (λv s1=>(X|||(pyIter v)) (dy X p0 Y tg R) X.xe s1) X.xe s
theorem K1{A:Around}{E:Va}{tg:Expr}{u:Value}{o:Obj}{n:String}{vs:Array Value}{Q:Unit->Shared->Prop}(ho:s.heap.get? it=some o)(hc:o.cls= .type n)(hd:o.data= .fields vs)
 (hn:["enumerate","zip","dict_itemiterator","dict_reverseitemiterator","odict_iterator","itertools.zip_longest","itertools.pairwise"].contains n=false)(hQ:Q () s):wpAny M A (letOwnedTupleGo tg (.ref it) u) Q E s:=by
 unfold letOwnedTupleGo
 cases tg <;>first
  |exact wpAny_pure hQ
  |(cases u<;>first
   |exact wpAny_pure hQ
   | (refine wB (wpAny_load ho ?_)
      rw[hc,hd];show wpAny M A (if(["enumerate","zip","dict_itemiterator","dict_reverseitemiterator","odict_iterator","itertools.zip_longest","itertools.pairwise"].contains n && vs[0]? == some (rawInt _))=true then _ else _) Q E s;rw[iN (by intro h;rw[hn,Bool.false_and]at h;cases h)]
      exact wpAny_pure hQ))
def fj(K:Frag)(a:Addr):It:=
 #[λi H=>∃xs x,DO K H a xs/\xs[i]? =some x,λi H x H'=>H'=H/\∀xs,DO K H a xs->xs[i]? =some x,λi H=>∃xs,DO K H a xs/\xs.length<=i]
def fh(K:Frag)(a:Addr):It:=
 #[λi H=>∃xs x,D1 K H a xs/\xs[i]? =some x,λi H x H'=>H'=H/\∀xs,D1 K H a xs->xs[i]? =some x,λi H=>∃xs,D1 K H a xs/\xs.length<=i]
def aq(lo:Int)(n:Nat):It:=#[λi _=>i < n,λi H x H'=>H'=H/\x= .int (lo+i),λi _=>n<=i]
theorem MN{P:Program}{w:World}{K:Frag}{tg:Expr}(a it:Addr):Turn P w K tg (fj K a) [it] it (λi h=>h.IsListIter it a i) where
 mem:=by simp
 obj:=λi h st b hb=>by
  have e:b=it:=by simpa using hb
  subst e;rintro⟨o,e,c,d⟩:st;exact#[o,e,λv z=>by rw[d]at z;cases z]
 keep:=λi h h' st k=>st.at λo e=>k it (by simp) o e
 item:=by
  intro X hP hw hK hc i p0 s Y H E I hf st hg;subst hP hw hK;rintro⟨xs,x,hq,hx⟩:hg;rintro⟨its,rv,p,hz⟩:I.list hq;rintro⟨u,hu,ru⟩:rv.get hx;rintro⟨f0,f1,f2,f3,f4,f5⟩:hf it (by simp);refine wpAny_pyNext_list_item st p.isList (x:=u) (by simpa using hu) λh' st' sb=>?_
  have I1:Inv X p0 Y H {s with heap:=h'}:=I.turned (t':=s.toks) (λb o hb e=>(sb.2 b hb).trans e) f0 f1 f3 f4 f5;rintro⟨o,e,c,d⟩:id st';exact#[u,rfl,K1 (s:={s with heap:=h'}) e c d (by decide) #[x,H,I1,ru,#[rfl,λys hy=>by rw[I.JR hy hq];exact hx],st',λb hb=>(hf b hb).1]]
 done:=by
  intro X hP hw hK hc i p0 s Y H E I hf st hg;subst hP hw hK;rintro⟨xs,hq,hx⟩:hg;rintro⟨its,rv,p,hz⟩:I.list hq;rintro⟨f0,f1,f2,f3,f4,f5⟩:hf it (by simp);have hl:=rv.length;exact wpAny_pyNext_list_end (I.ok.hd hc) st p.isList (by simp;lia) λh' eb=>#[rfl,I.turned (t':=s.toks) (λb o hb e=>eb b o hb e) f0 f1 f3 f4 f5]
 self:=λ_ _ _ _ _ st h=>wpAny_pyIter_listiter st h
theorem Kv{P:Program}{w:World}{K:Frag}{tg:Expr}(a it:Addr):Turn P w K tg (fh K a) [it] it (λi h=>h.IsTupleIter it a i) where
 mem:=by simp
 obj:=λi h st b hb=>by
  have e:b=it:=by simpa using hb
  subst e;rintro⟨o,e,c,d⟩:st;exact#[o,e,λv z=>by rw[d]at z;cases z]
 keep:=λi h h' st k=>st.at λo e=>k it (by simp) o e
 item:=by
  intro X hP hw hK hc i p0 s Y H E I hf st hg;subst hP hw hK;rintro⟨xs,x,hq,hx⟩:hg;rintro⟨its,rv,p,hz⟩:I.tuple hq;rintro⟨u,hu,ru⟩:rv.get hx;rintro⟨f0,f1,f2,f3,f4,f5⟩:hf it (by simp);refine wpAny_pyNext_tuple_item st (show s.heap.IsTuple a its.toArray from p) (x:=u) (by simpa using hu) λh' st' sb=>?_
  have I1:Inv X p0 Y H {s with heap:=h'}:=I.turned (t':=s.toks) (λb o hb e=>(sb.2 b hb).trans e) f0 f1 f3 f4 f5;rintro⟨o,e,c,d⟩:id st';exact#[u,rfl,K1 (s:={s with heap:=h'}) e c d (by decide) #[x,H,I1,ru,#[rfl,λys hy=>by rw[I.EM hy hq];exact hx],st',λb hb=>(hf b hb).1]]
 done:=by
  intro X hP hw hK hc i p0 s Y H E I hf st hg;subst hP hw hK;rintro⟨xs,hq,hx⟩:hg;rintro⟨its,rv,p,hz⟩:I.tuple hq;rintro⟨f0,f1,f2,f3,f4,f5⟩:hf it (by simp);have hl:=rv.length;exact wpAny_pyNext_tuple_end (I.ok.hd hc) st (show s.heap.IsTuple a its.toArray from p) (by simp;lia) λh' eb=>#[rfl,I.turned (t':=s.toks) (λb o hb e=>eb b o hb e) f0 f1 f3 f4 f5]
 self:=λ_ _ _ _ _ st h=>wpAny_pyIter_tupleiter st h
theorem Kw{P:Program}{w:World}{K:Frag}{tg:Expr}(it:Addr)(lo:Int)(n:Nat):Turn P w K tg (aq lo n) [it] it (λi h=>IsRangeIter h it (lo + (i:Nat) * 1) ((n:Int) - (i:Nat)) 1) where
 mem:=by simp
 obj :=λi h st b hb=>by
  have e:b=it:=by simpa using hb
  subst e
  exact⟨_,st,λv z=>by
   have z':Data.fields _=Data.cell v:=z
   cases z'⟩
 keep:=λi h h' st k=>k it (by simp) _ st
 item:=by
  intro X hP hw hK hc i p0 s Y H E I hf st hg;subst hP hw hK;rintro⟨f0,f1,f2,f3,f4,f5⟩:hf it (by simp);have W:=Walks.range (prog:=X.prog) (w:=X.w) (I.ok.hd hc) it lo 1 n;refine W.item i s _ _ hg st λv h' tk hv st' kk=>?_
  rintro⟨t,rfl⟩:hv;have I1:Inv X p0 Y H {s with heap:=h',toks:=tk}:=I.turned (λb o hb e=>kk b o (by simpa using hb) e) f0 f1 f3 f4 f5;refine#[_,rfl,K1 (s:={s with heap:=h',toks:=tk}) (n:="range_iterator") st' rfl rfl (by decide) #[.int (lo+i),H,I1,#[t,?_],#[rfl,rfl],st',λb hb=>(hf b hb).1]];rw[Int.mul_one]
 done:=by
  intro X hP hw hK hc i p0 s Y H E I hf st hg;subst hP hw hK;rintro⟨f0,f1,f2,f3,f4,f5⟩:hf it (by simp);exact wpAny_pyNext_range_end (I.ok.hd hc) st (by have:n<=i:=hg;lia) λh' eb=>#[rfl,I.turned (t':=s.toks) (λb o hb e=>eb b o hb e) f0 f1 f3 f4 f5]
 self:=λ_ _ _ _ _ st h=>wpAny_pyIter_rangeiter st h
section
variable{tg:Expr}
variable{p0:Oa}{H:Hp}{s:Shared}
theorem JC{Y:St}{R:It->Hp->Prop}{E:Va}{lo hi:Int}{t u v:Tok}{tk:Nat}(I:∅)(h1: -(2 ^ 62)<=lo)(h2:lo < 2 ^ 62)(h3: -(2 ^ 62)<=hi)(h4:hi < 2 ^ 62)
 (q:R (aq lo (hi-lo).toNat) H):(X|||(pyIter (.ref s.heap.objs.size))) (dy X p0 Y tg R) E {s with heap:=s.heap.push {cls:=.type "range",data:=.fields [.int lo t,.int hi u,.int 1 v].toArray},toks:=tk}:=by
 refine wpAny_pyIter_range (IsRange.new ..) (small_one h1 h2 h3 h4) ?_;have I1:Inv X p0 Y H {s with heap:=s.heap.push {cls:=.type "range",data:=.fields [.int lo t,.int hi u,.int 1 v].toArray},toks:=tk}:=I.kept λb o e=>gP e
 refine⟨(s.heap.push {cls:=.type "range",data:=.fields [.int lo t,.int hi u,.int 1 v].toArray}).objs.size,[(s.heap.push {cls:=.type "range",data:=.fields [.int lo t,.int hi u,.int 1 v].toArray}).objs.size],_,_,H,rfl,
  I1.kept (t':=tk) λb o e=>gP e,Kw _ lo (hi-lo).toNat,?_,λb hb=>?_,q⟩
 .have e1:lo+((0:Nat):Int)*1=lo:=by simp
  have e2:(((hi-lo).toNat:Nat):Int)-((0:Nat):Int)=Builtin.Range.rangeSize lo hi 1:=by rw[rangeSize_one];split<;>lia
  show IsRangeIter _ _ (lo+((0:Nat):Int)*1) ((((hi-lo).toNat:Nat):Int)-((0:Nat):Int)) 1;rw[e1,e2];exact Heap.get?_push_size _ rfl
 .have e:b=(s.heap.push {cls:=.type "range",data:=.fields [.int lo t,.int hi u,.int 1 v].toArray}).objs.size:=by simpa using hb
  subst e;exact I1.Ll (Nat.le_refl _) (I1.Aj.fresh (Nat.le_refl _))
noncomputable def Vd(wi:TI)(g:TG)(tb:TS):TS:=λD Y H=>wi Y H λJ H1=>∃W:Nat->Nat->St->Hp->Prop,(∃m,W 0 m Y H1)/\∀i m Y H,W i m Y H->
 (J.stop i H/\D.nx Y H)\/(J.go i H/\∃N:St->Hp->Prop,(∀Y' H',N Y' H'->∃m',m' < m/\W (i+1) m' Y' H')/\∀x H',J.LN i H x H'->g x Y H' λY2 H2=>tb {D with nx:=N,ct:=N,bk:=D.nx} Y2 H2)
def Iw(fp:List Addr)(h:Heap):List (Addr×Obj):=fp.filterMap λb=>(h.get? b).map λo=>(b,o)
variable{fp:List Addr}{h:Heap}
theorem C3{b:Addr}{o:Obj}(hb:b∈fp)(e:h.get? b=some o):(b,o)∈Iw fp h:=mem_filterMap.mpr #[b,hb,by rw[e];rfl]
theorem N3{p:Addr×Obj}(hp:p∈Iw fp h):p.1∈fp/\h.get? p.1=some p.2:=by
 rintro⟨b,hb,e⟩:mem_filterMap.mp hp;cases q:h.get? b with
 |none=>rw[q]at e;cases e
 |some o=>
   rw[q]at e;have e':(b,o)=p:=Option.some.inj e;subst e';exact#[hb,q]
theorem Inv.pinned{Y:St}(I:∅)(hf:∀b∈fp,Fe X p0 H b)(ho:∀b∈fp,∃o,s.heap.get? b=some o/\∀v,o.data≠.cell v):Inv X (p0++Iw fp s.heap) Y H s:=
 I.D4 λp hp=>(mZ hp).elim (λz=>I.pin p (mR z)) λz=>by
  rintro⟨hb,e⟩:N3 z;rintro⟨f0,f1,f2,_⟩:hf p.1 hb;rintro⟨o,e',d⟩:ho p.1 hb;rw[e]at e';cases e';exact#[e,f0,f1,f2,d]
theorem Inv.G8{pl:Oa}{Y:St}(I:Inv X (p0++pl) Y H s):∅:=I.D4 λp hp=>I.pin p (mR (mL hp))
theorem OE{iter:Expr}{body:List Stmt}{wi:TI}{g:TG}{tb:TS}{pos:Pos}(hp:PassesOwn (model X.prog X.w) X.A X.env X.xe)(hc:X.calm=true)(hi:PI X tg iter wi)(hg:PG X tg g)(hb:NJ X body tb)
 (hs:∀x,foldedSetIterable iter X.env x=pure x:=by intro _;rfl):PS X (.For tg iter body [] pos) (Vd wi g tb):=by
 intro p0 s Y H D I h;refine wpAny_For (AS (hi p0 s Y H _ I h) λv s1 h1=>AS h1 λitv s2 h2=>?_) hs;rintro⟨it,fp,tn,J,H2,e,I2,T,st2,f2,W,⟨m0,w0⟩,turn⟩:h2;subst e;have stat:∀{H':Hp},(∀b∈fp,H' b=none)->∀b∈fp,Fe X p0 H' b:=λhn b hb=>#[hn b hb,(f2 b hb).2]
 refine codeAny_forLoop_any (λn s'=>∃i Y' H',Inv X p0 Y' H' s'/\tn i s'.heap/\(∀b∈fp,H' b=none)/\W i n Y' H') ?_ m0 #[0,Y,H2,I2,st2,λb hb=>(f2 b hb).1,w0]
 rintro n s3 ⟨i,Y3,H3,I3,st3,fr3,w3⟩
 rcases turn i n Y3 H3 w3 with⟨stop,qn⟩|⟨go,N,hN,step⟩
 .refine wpAny_passesOwn hp (AS (T.done X rfl rfl rfl hc i p0 s3 Y3 H3 X.xe I3 (stat fr3) st3 stop) λr s4 ⟨hr,I4⟩=>?_);subst hr;exact wpAny_execs_nil #[Y3,H3,I4,qn]
 .refine wpAny_passesOwn hp (AS (T.item X rfl rfl rfl hc i p0 s3 Y3 H3 X.xe I3 (stat fr3) st3 go) λr s4 ⟨u,hr,h4⟩=>?_);subst hr;refine wpAny_passesOwn hp (AS h4 λ_ s5 ⟨x,H5,I5,r5,y5,st5,fr5⟩=>?_);have I5':=I5.pinned (stat fr5) (T.obj _ _ st5);refine wpAny_passesOwn hp (AS (hg _ s5 Y3 H5 x u _ I5' r5 (step x H5 y5)) λ_ s6 ⟨Y6,H6,I6,q6⟩=>?_);refine wpAny_passesOwn hp (AS (hb _ s6 Y6 H6 _ I6 q6) λf s7 q7=>?_)
  have again:∀{Y7:St} {H7:Hp},Inv X (p0++Iw fp s5.heap) Y7 H7 s7->N Y7 H7->∃m,m < n/\∃i Y' H',Inv X p0 Y' H' s7/\tn i s7.heap/\(∀b∈fp,H' b=none)/\W i m Y' H':=λ{Y7 H7} I7 n7=>by
   rintro⟨m',hm,w7⟩:hN Y7 H7 n7;refine#[m',hm,i+1,Y7,H7,I7.G8,T.keep _ _ _ st5 λb hb o e=>(I7.pin (b,o) (mR (mR (C3 hb e)))).1,λb hb=>?_,w7];rintro⟨o,e,d⟩:T.obj _ _ st5 b hb;exact(I7.pin (b,o) (mR (mR (C3 hb e)))).2.1
  cases f with
  |next=>rintro⟨Y7,H7,I7,n7⟩:q7;exact again I7 n7
  |cont=>rintro⟨Y7,H7,I7,n7⟩:q7;exact again I7 n7
  |brk=>rintro⟨Y7,H7,I7,q7⟩:q7;exact#[Y7,H7,I7.G8,q7]
  |ret v=>rintro⟨x7,Y7,H7,I7,r7,q7⟩:q7;exact#[x7,Y7,H7,I7.G8,r7,q7]
end
abbrev R2:=V->V->Hp->VK->Prop
def BG(X:Cx)(f:Value->Value->Sem Value)(r:R2):Prop:=
 ∀ (p0:Oa) (s:Shared) (Y:St) (H:Hp) (x y:V) (v u:Value) (Q:VK),∅->RelV x v->RelV y u->r x y H Q->
   (X|||(f v u)) (EP X p0 Y Q) X.xe s
def Hj(X:Cx)(f:Value->Sem Value)(r:V->Hp->VK->Prop):Prop:=
 ∀ (p0:Oa) (s:Shared) (Y:St) (H:Hp) (x:V) (v:Value) (Q:VK),∅->RelV x v->r x H Q->
   (X|||(f v)) (EP X p0 Y Q) X.xe s
def Dh(X:Cx)(f:Value)(r:List V->Hp->VK->Prop):Prop:=
 ∀ (p0:Oa) (s:Shared) (Y:St) (H:Hp) (xs:List V) (us:List Value) (Q:VK),∅->Vals xs us->r xs H Q->
   (X|||(call f us)) (EP X p0 Y Q) X.xe s
def ZL(X:Cx)(r:V->Hp->(Bool->Hp->Prop)->Prop):Prop:=
 ∀ (p0:Oa) (s:Shared) (Y:St) (H:Hp) (x:V) (v:Value) (Q:Bool->Hp->Prop),∅->RelV x v->r x H Q->
   (X|||(truthy v)) (TP X p0 Y Q) X.xe s
def Vc(r:R2)(ta tb:TE):TE:=λY H Q=>ta Y H λx H1=>tb Y H1 λy H2=>r x y H2 Q
def dU(r:V->Hp->VK->Prop)(ta:TE):TE:=λY H Q=>ta Y H λx H1=>r x H1 Q
def rI(C:Int->Int->Prop)(g:Int->Int->V):R2:=λx y H Q=>∃i j,x= .int i/\y= .int j/\C i j/\Q (g i j) H
def Uk(g:Int->Int->V):R2:=λx y H Q=>∃i j,x= .int i/\y= .int j/\Q (g i j) H
def rU(g:Int->V):V->Hp->VK->Prop:=λx H Q=>∃i,x= .int i/\Q (g i) H
section
variable{a b c:Expr}{ta tb tc:TE}
theorem Xl(ha:PE X a ta)(hb:PE X b tb){p0:Oa}{s:Shared}{Y:St}{H:Hp}{R:V->V->Hp->Prop}(I:∅)
 (h:ta Y H λx H1=>tb Y H1 λy H2=>R x y H2){Q:Va}{f:Value->Value->Sem Value}
 (hf:∀v u s2 x y H2,Inv X p0 Y H2 s2->RelV x v->RelV y u->R x y H2->(X|||(f v u)) Q X.xe s2):
 (X|||(eval a X.env)) (λv s₁=>(X|||(eval b X.env)) (λu s₂=>(X|||(f v u)) Q X.xe s₂) X.xe s₁) X.xe s:=by
 refine AS (ha p0 s Y H _ I h) λv s1 ⟨x,H1,I1,r1,q1⟩=>?_
 refine AS (hb p0 s1 Y H1 _ I1 q1) λu s2 ⟨y,H2,I2,r2,q2⟩=>?_
 exact hf v u s2 x y H2 I2 r1 r2 q2
theorem YR{op:Operator}{r:R2}(ho:BG X (binaryOp op) r)(ha:PE X a ta)(hb:PE X b tb):PE X (.BinOp a op b pos) (Vc r ta tb):=by
 intro p0 s Y H Q I h;exact wpAny_BinOp (Xl ha hb I h λv u s2 x y H2 I2 rx ry q=>ho p0 s2 Y H2 x y v u Q I2 rx ry q)
theorem YO{op:UnaryOp}{r:V->Hp->VK->Prop}(ho:Hj X (unaryOp op) r)(ha:PE X a ta):PE X (.UnaryOp op a pos) (dU r ta):=by
 intro p0 s Y H Q I h;exact UnaryOp_ (AS (ha p0 s Y H _ I h) λv s1 ⟨x,H1,I1,r1,q1⟩=>ho p0 s1 Y H1 x v Q I1 r1 q1)
theorem ZZ{f:Value->Value->Sem Value}{C:Int->Int->Prop}{g:Int->Int->Int}
 (rule:∀(i j:Int) (t u:Tok) (s:Shared) (Q:Va) (E:Va),C i j->Q (.int (g i j) s.toks) {s with toks:=s.toks+1}->(X|||(f (.int i t) (.int j u))) Q E s):
 BG X f (rI C λi j=>.int (g i j)):=by
 intro p0 s Y H x y v u Q I rx ry h;rintro⟨i,j,rfl,rfl,hc,q⟩:h;rintro⟨t,rfl⟩:rx;rintro⟨t',rfl⟩:ry;exact rule i j t t' s _ _ hc #[.int (g i j),H,I.tok _,#[_,rfl],q]
theorem YZ{f:Value->Value->Sem Value}{g:Int->Int->Int}
 (rule:∀(i j:Int) (t u:Tok) (s:Shared) (Q:Va) (E:Va),Q (.int (g i j) s.toks) {s with toks:=s.toks+1}->(X|||(f (.int i t) (.int j u))) Q E s):
 BG X f (Uk λi j=>.int (g i j)):=by
 intro p0 s Y H x y v u Q I rx ry h;rintro⟨i,j,rfl,rfl,q⟩:h;rintro⟨t,rfl⟩:rx;rintro⟨t',rfl⟩:ry;exact rule i j t t' s _ _ #[.int (g i j),H,I.tok _,#[_,rfl],q]
theorem S9{f:Value->Value->Sem Value}{g:Int->Int->Bool}
 (rule:∀(i j:Int) (t u:Tok) (s:Shared) (Q:Va) (E:Va),Q (.bool (g i j)) s->(X|||(f (.int i t) (.int j u))) Q E s):
 BG X f (Uk λi j=>.bl (g i j)):=by
 intro p0 s Y H x y v u Q I rx ry h;rintro⟨i,j,rfl,rfl,q⟩:h;rintro⟨t,rfl⟩:rx;rintro⟨t',rfl⟩:ry;exact rule i j t t' s _ _ #[.bl (g i j),H,I,rfl,q]
def cA(i j:Int):Prop:=0 < j/\j < 1073741824
def cz(i j:Int):Prop:=0<=j/\j<=1000000/\i.natAbs < 2 ^ 64
def Xt(i j:Int):Prop:=(-(2 ^ 64) < i/\i < 2 ^ 64)\/(-(2 ^ 64) < j/\j < 2 ^ 64)
theorem Xt.ok{i j:Int}(h:Xt i j):IntMulOk i j:=by
 rcases h with⟨h1,h2⟩|⟨h1,h2⟩
 .exact .of_left (intBits_le_64 h1 h2)
 .exact .of_right (intBits_le_64 h1 h2)
theorem Wh:BG X (binaryOp .Add) (Uk λi j=>.int (i+j)):=YZ λ_ _ _ _ _ _ _ q=>add_int q
theorem W8:BG X (binaryOp .Sub) (Uk λi j=>.int (i-j)):=YZ λ_ _ _ _ _ _ _ q=>sub_int q
theorem Wa:BG X (binaryOp .Mult) (rI Xt λi j=>.int (i*j)):=ZZ λ_ _ _ _ _ _ _ hc q=>mul_int q hc.ok
theorem S8:BG X (binaryOp .FloorDiv) (rI cA λi j=>.int (i / j)):=ZZ λi j _ _ _ _ _ hc q=>by
 have h1:(0:Int) < j:=hc.1;have h2:j < 1073741824:=hc.2;exact floordiv_int (by lia) (by rw[Int.fdiv_eq_ediv_of_nonneg i (by lia)];exact q) (.inl (PyProof.noPylong_small (by lia)))
theorem Wb:BG X (binaryOp .Mod) (rI (λ_ j=>0 < j) λi j=>.int (i % j)):=ZZ λi j _ _ _ _ _ hc q=>by
 have h1:(0:Int) < j:=hc;exact mod_int' (by lia) (by rw[Int.fmod_eq_emod_of_nonneg i (by lia)];exact q)
theorem W9:BG X (binaryOp .Pow) (rI cz λi j=>.int (i ^ j.toNat)):=ZZ λ_ _ _ _ _ _ _ hc q=>pow_int_small hc.1 hc.2.1 hc.2.2 q
theorem dQ{f:Value->Sem Value}{g:Int->Int}
 (rule:∀(i:Int) (t:Tok) (s:Shared) (Q:Va) (E:Va),Q (.int (g i) s.toks) {s with toks:=s.toks+1}->(X|||(f (.int i t))) Q E s):
 Hj X f (rU λi=>.int (g i)):=by
 intro p0 s Y H x v Q I rx h;rintro⟨i,rfl,q⟩:h;rintro⟨t,rfl⟩:rx;exact rule i t s _ _ #[.int (g i),H,I.tok _,#[_,rfl],q]
theorem UY:Hj X (unaryOp .USub) (rU λi=>.int (-i)):=dQ λ_ _ _ _ _ q=>neg_int q
end
section
variable{a b c:Expr}{ta tb tc:TE}
theorem Lo{p0:Oa}{Y:St}{H:Hp}{s:Shared}{Q:VK}{k k':Bool}(I:∅)(q:Q (.bl k) H)(e:k=k'):EP X p0 Y Q (.bool k') s:=by
 subst e;exact#[.bl k,H,I,rfl,q]
theorem YV:BG X (compareOp .Lt) (Uk λi j=>.bl (decide (i < j))):=S9 λ_ _ _ _ _ _ _ q=>lt_int q
theorem YW:BG X (compareOp .LtE) (Uk λi j=>.bl (decide (i<=j))):=S9 λ_ _ _ _ _ _ _ q=>le_int q
theorem YX:BG X (compareOp .Gt) (Uk λi j=>.bl (decide (j < i))):=S9 λ_ _ _ _ _ _ _ q=>gt_int q
theorem YY:BG X (compareOp .GtE) (Uk λi j=>.bl (decide (j<=i))):=S9 λ_ _ _ _ _ _ _ q=>ge_int q
theorem Wc:BG X (compareOp .Is) (λx y H Q=>y= .AG/\Q (.bl (decide (x= .AG))) H):=by
 intro p0 s Y H x y v u Q I rx ry h;rintro⟨rfl,q⟩:h;cases ry;refine is_none_gen (Lo I q ?_)
 cases x<;>first
  |(cases rx;rfl)
  |(rintro⟨t,rfl⟩:rx;rfl)
theorem S7:BG X (compareOp .IsNot) (λx y H Q=>y= .AG/\Q (.bl (!decide (x= .AG))) H):=by
 intro p0 s Y H x y v u Q I rx ry h;rintro⟨rfl,q⟩:h;cases ry;refine isnot_none_gen (Lo I q ?_)
 cases x<;>first
  |(cases rx;rfl)
  |(rintro⟨t,rfl⟩:rx;rfl)
variable{r':R2}
theorem BG.or{f:Value->Value->Sem Value}{r:R2}(h:BG X f r)(h':BG X f r'):BG X f (λx y H Q=>r x y H Q\/r' x y H Q):=by
 intro p0 s Y H x y v u Q I rx ry q;rcases q with q|q
 .exact h p0 s Y H x y v u Q I rx ry q
 .exact h' p0 s Y H x y v u Q I rx ry q
variable{op:CmpOp}
theorem RY{r:R2}(ho:BG X (compareOp op) r)(ha:PE X a ta)(hb:PE X b tb)(hm:behindInMarks op b=false):PE X (.Compare a [op] [b] pos) (Vc r ta tb):=by
 intro p0 s Y H Q I h;exact wpAny_Compare1 (Xl ha hb I h λv u s2 x y H2 I2 rx ry q=>ho p0 s2 Y H2 x y v u Q I2 rx ry q) hm
def U5(t:TE):TT:=λY H Q=>t Y H λx H'=>∃k,x= .bl k/\Q k H'
theorem RO{r:R2}(ho:BG X (compareOp op) r)(ha:PE X a ta)(hb:PE X b tb)(hm:behindInMarks op b=false):PT X (.Compare a [op] [b] pos) (U5 (Vc r ta tb)):=by
 intro p0 s Y H Q I h
 refine wpAny_isTrue_Compare1 (AS (ha p0 s Y H _ I h) λv s1 ⟨x,H1,I1,r1,q1⟩=>AS (hb p0 s1 Y H1 _ I1 q1) λu s2 ⟨y,H2,I2,r2,q2⟩=>
  AS (ho p0 s2 Y H2 x y v u _ I2 r1 r2 q2) λc s3 ⟨z,H3,I3,r3,k,e,q3⟩=>?_) hm
 subst e;cases r3;exact wpAny_truthy_bool #[H3,I3,q3]
def Ky(r r':R2)(ta tb tc:TE):TE:=λY H Q=>ta Y H λx H1=>tb Y H1 λy H2=>r x y H2 λz H3=>∃k,z= .bl k/\
 (if k=true then tc Y H3 λw' H4=>r' y w' H4 Q else Q (.bl false) H3)
variable{op':CmpOp}
theorem OS{r:R2}(ho:BG X (compareOp op) r)(ho':BG X (compareOp op') r')(ha:PE X a ta)(hb:PE X b tb)(hc:PE X c tc)
 (hm:lastMarks [op,op'] [b,c]=false:=by with_unfolding_all rfl):PE X (.Compare a [op,op'] [b,c] pos) (Ky r r' ta tb tc):=by
 intro p0 s Y H Q I h
 refine Compare_chain (AS (ha p0 s Y H _ I h) λv s1 ⟨x,H1,I1,r1,q1⟩=>chain_link (AS (hb p0 s1 Y H1 _ I1 q1) λu s2 ⟨y,H2,I2,r2,q2⟩=>
  AS (ho p0 s2 Y H2 x y v u _ I2 r1 r2 q2) λd s3 ⟨z,H3,I3,r3,k,e,q3⟩=>?_)) hm
 subst e;cases r3;refine wpAny_truthy_bool ?_;cases k with
 |false=>exact ite_ff #[.bl false,H3,I3,rfl,q3]
 |true=>exact ite_tt (chain_last (AS (hc p0 s3 Y H3 _ I3 q3) λw' s4 ⟨z',H4,I4,r4,q4⟩=>ho' p0 s4 Y H4 y z' u w' Q I4 r2 r4 q4))
theorem OA{r:R2}(ho:BG X (compareOp op) r)(ho':BG X (compareOp op') r')(ha:PE X a ta)(hb:PE X b tb)(hc:PE X c tc)
 (hm:lastMarks [op,op'] [b,c]=false:=by with_unfolding_all rfl):PT X (.Compare a [op,op'] [b,c] pos) (U5 (Ky r r' ta tb tc)):=by
 intro p0 s Y H Q I h
 refine isTrue_chain (AS (ha p0 s Y H _ I h) λv s1 ⟨x,H1,I1,r1,q1⟩=>test_link (AS (hb p0 s1 Y H1 _ I1 q1) λu s2 ⟨y,H2,I2,r2,q2⟩=>
  AS (ho p0 s2 Y H2 x y v u _ I2 r1 r2 q2) λd s3 ⟨z,H3,I3,r3,k,e,q3⟩=>?_)) hm
 subst e;cases r3;refine wpAny_truthy_bool ?_;cases k with
 |false=>
   rintro⟨k',e',q'⟩:q3;cases e';exact ite_ff #[H3,I3,q']
 |true=>
   refine ite_tt (test_last (AS (hc p0 s3 Y H3 _ I3 q3) λw' s4 ⟨z',H4,I4,r4,q4⟩=>AS (ho' p0 s4 Y H4 y z' u w' _ I4 r2 r4 q4) λd' s5 ⟨z2,H5,I5,r5,k2,e2,q5⟩=>?_));subst e2;cases r5;exact wpAny_truthy_bool #[H5,I5,q5]
def ZK(K:Frag)(x:V)(H:Hp)(k:Bool):Prop:=
 match x with
 |.AG=>k=false
 |.bl b=>k=b
 |.int i=>k=(i != 0)
 |.str y=>y.length<=sizeLine/\k=((y.length:Int) != 0)
 |.XI y=>y.size<=sizeLine/\k=((y.size:Int) != 0)
 |.ref p=>(∃xs,DO K H p xs/\k= !xs.isEmpty)\/(∃xs,D1 K H p xs/\k= !xs.isEmpty)\/∃kvs,H p=some (.dK kvs)/\k= !kvs.isEmpty
 |_=>False
theorem Ld{κ:Type}{kvs:List (κ×V)}{vs:List (κ×Value)}(r:KV kvs vs):(!vs.isEmpty)= !kvs.isEmpty:=by
 cases r<;>rfl
theorem GB{xs:List V}{its:List Value}(r:Vals xs its):(!its.toArray.isEmpty)= !xs.isEmpty:=by
 cases r<;>simp
theorem D7:(sizeLine:Nat) < 2 ^ 63:=by rw[sizeLine_eq];decide
theorem V3:ZL X (λx H Q=>∃k,ZK X.K x H k/\Q k H):=by
 intro p0 s Y H x v Q I rx h;rintro⟨k,e,q⟩:h;have hl:=D7;have hs:sizeLine=16777216:=sizeLine_eq;cases x with
 |AG=>
   cases rx;have e':k=false:=e;subst e';exact truthy_none #[H,I,q]
 |bl b=>
   cases rx;have e':k=b:=e;subst e';exact wpAny_truthy_bool #[H,I,q]
 |int i=>
   rintro⟨t,rfl⟩:rx;have e':k=(i != 0):=e;subst e';exact PySem.P.truthy_int #[H,I,q]
 |str y=>
   rintro⟨t,rfl⟩:rx;obtain⟨hy,e'⟩:y.length<=sizeLine/\k=((y.length:Int) != 0):=e;subst e';exact PySem.P.truthy_str (by lia) #[H,I.tok _,q]
 |XI y=>
   rintro⟨t,rfl⟩:rx;obtain⟨hy,e'⟩:y.size<=sizeLine/\k=((y.size:Int) != 0):=e;subst e';exact PySem.W.truthy_bytes (by lia) #[H,I.tok _,q]
 |ref p=>
   cases rx;have e':(∃xs,DO X.K H p xs/\k= !xs.isEmpty)\/(∃xs,D1 X.K H p xs/\k= !xs.isEmpty)\/∃kvs,H p=some (.dK kvs)/\k= !kvs.isEmpty:=e;rcases e' with⟨xs,hx,e'⟩|⟨xs,hx,e'⟩|⟨kvs,hx,e'⟩
   .subst e';rintro⟨its,r,pl,hz⟩:I.list hx;have hlen:=r.length;exact wpAny_truthy_list pl.isList (by simp only[size_toArray];lia) #[H,I.tok _,by rw[GB r];exact q]
   .subst e';rintro⟨its,r,pl,hz⟩:I.tuple hx;have hlen:=r.length;exact truthy_tuple pl (by simp only[size_toArray];lia) #[H,I.tok _,by rw[GB r];exact q]
   .subst e';obtain⟨hz,hS,vs,r,m⟩:kvs.length<=sizeLine/\(p == sysModules)=false/\∃vs,KV kvs vs/\s.heap.DictOf (IC X.prog X.w) p vs:=I.Aj p _ hx;have hlen:kvs.length=vs.length:=Paired.length r;exact wpAny_truthy_dict hS m (by lia) #[H,I.tok _,by rw[Ld r];exact q]
 |_=>exact(show False from e).elim
theorem KQ:BG X (binaryOp .Add) (λx y H Q=>∃i j,x= .str i/\y= .str j/\i.length + j.length<=sizeLine/\Q (.str (i++j)) H):=by
 intro p0 s Y H x y v u Q I rx ry h;rintro⟨i,j,rfl,rfl,hz,q⟩:h;rintro⟨t,rfl⟩:rx;rintro⟨t',rfl⟩:ry;exact add_str (λt' tk=>#[.str (i++j),H,I.tok _,#[_,rfl],q]) hz
variable{us:List Value}
theorem vals1{x:V}(r:Vals [x] us):∃u,us=[u]/\RelV x u:=by
 cases r with
 |cons r1 r2=>cases r2;exact#[_,rfl,r1]
theorem vals2{x y:V}(r:Vals [x,y] us):∃u w',us=[u,w']/\RelV x u/\RelV y w':=by
 cases r with
 |cons r1 r2=>
   cases r2 with
   |cons r3 r4=>cases r4;exact#[_,_,rfl,r1,r3]
theorem Qq:Dh X (.builtin "abs") (λxs H Q=>∃i,xs=[.int i]/\Q (.int (if i < 0 then -i else i)) H):=by
 intro p0 s Y H xs us Q I r h;rintro⟨i,rfl,q⟩:h;rintro⟨u,rfl,t,rfl⟩:vals1 r;exact call_abs_int λu tk=>#[.int (if i < 0 then -i else i),H,I.tok _,#[_,rfl],q]
theorem ND(hc:X.calm=true):Dh X (.builtin "max") (λxs H Q=>∃i j,xs=[.int i,.int j]/\Q (.int (if j > i then j else i)) H):=by
 intro p0 s Y H xs us Q I r h;rintro⟨i,j,rfl,q⟩:h;rintro⟨u,w',rfl,⟨t,rfl⟩,⟨t',rfl⟩⟩:vals2 r;refine max_two_ints (I.ok.hd hc) λh' tk k=>#[_,H,I.kept k,?_,q]
 by_cases hj:j > i
 .rw[iP hj,iP hj];exact#[_,rfl]
 .rw[iN hj,iN hj];exact#[_,rfl]
theorem NC(hc:X.calm=true):Dh X (.builtin "min") (λxs H Q=>∃i j,xs=[.int i,.int j]/\Q (.int (if j < i then j else i)) H):=by
 intro p0 s Y H xs us Q I r h;rintro⟨i,j,rfl,q⟩:h;rintro⟨u,w',rfl,⟨t,rfl⟩,⟨t',rfl⟩⟩:vals2 r;refine min_two_ints (I.ok.hd hc) λh' tk k=>#[_,H,I.kept k,?_,q]
 by_cases hj:j < i
 .rw[iP hj,iP hj];exact#[_,rfl]
 .rw[iN hj,iN hj];exact#[_,rfl]
end
structure LH(h:Heap)(x dx C:Addr)(mA:Str->Option Value):Prop where
 obj:h.get? x=some (instObj C dx)
 ns:h.Ns1 dx mA
 ne:dx≠x
variable{dx:Addr}{mA:Str->Option Value}
theorem N9(n:h.Ns1 dx mA):∃od,h.get? dx=some od/\∀name,lookIn name od=some (mA name):=by
 rintro⟨o,es,ep,ho,hd,hk,_,hm⟩:n;refine#[o,ho,λname=>?_];have e:=hm name;unfold nsFind findBy at e;rw[<-Array.find?_toList]at e;unfold lookIn;rw[hd];dsimp only;split
 .rename_i y q;rw[q]at e;exact congrArg some e
 .rename_i q;rw[q]at e
  have a:es.toList.any (·.refKey)=false:=by
   rw[List.any_eq_false];intro y hy;rintro⟨z,t,GD⟩:hk y (Array.mem_toList_iff.mp hy);simp[DictEntry.refKey,GD]
  have a':¬es.toList.any (·.refKey)=true:=by rw[a];exact Bool.false_ne_true
  rw[iN a'];exact congrArg some e
theorem LH.look{C:Addr}(I:LH h x dx C mA):∃od,InstAt h x (instObj C dx) C (some od)/\∀name,lookIn name od=some (mA name):=
 let⟨od,ho,hl⟩:=N9 I.ns
 #[od,#[I.obj,rfl,rfl,ho],hl]
section
variable{prog:Program}{w:World}{A:Around}{E:Va}{K:Frag}{x dx C f:Addr}{mA:Str->Option Value}{name:Str}{v:Value}
theorem get_map{expr:Bool}{Q:Va}(X:K.In s.heap)(I:LH s.heap x dx C mA)(hg:plainGet K C name=true)(hh:hasDictIn K C=true)
 (ha:findIn K (.ref C) name=some none)(hv:mA name=some v)(hv':handedIn v=true)(h:Q v {s with toks:=s.toks+1}):
 wpAny (model prog w) A (getAttr (.ref x) name expr) Q E s:=by
 rintro⟨od,J,hl⟩:I.look;exact PySem.W.get_value X J (plainGet_of hg).1 (PySem.W.findObj_own hh ha rfl (by rw[hl,hv])) hv' h
theorem Q1{pl:Sem Bool}{Q:Value×List Value->Shared->Prop}(X:K.In s.heap)(I:LH s.heap x dx C mA)(hg:plainGet K C name=true)
 (hf:findIn K (.ref C) name=some (some (.ref f)))(ht:isFn K (.ref f)=true)(hv:mA name=none)(h:Q (.ref f,[.ref x]) s):
 wpAny (model prog w) A (getMethod (.ref x) name pl) Q E s:=by
 rintro⟨od,J,hl⟩:I.look;exact PySem.W.method_fn X J (plainGet_of hg).1 (plainGet_of hg).2 hf (beq_iff_eq.mp ht) (by show(lookIn name od).map (·.isSome)=some false;rw[hl,hv];rfl) h
theorem RC{ns:List Str}{Q:Unit->Shared->Prop}(X:K.In s.heap)(I:LH s.heap x dx C mA)
 (hs:findIn K (.ref C) "__setattr__"=some (some (.builtin "object.__setattr__")))(hp:plainOver K C=true)(ht:takerIn K C name=some none)(hh:hasDictIn K C=true)
 (hw:PySem.Within mA ns)(hsz:ns.length<=sizeLine)
 (h:∀h',LH h' x dx C (λy=>if y=name then some v else mA y)->Heap.SameBut dx s.heap h'->Q () {s with heap:=h',toks:=s.toks+2}):
 wpAny (model prog w) A (setAttr (.ref x) name v) Q E s:=by
 rintro⟨od,J,hl⟩:I.look;refine PySem.W.set_plain X J hs (PySem.W.osa_open (s:={s with toks:=s.toks+1}) (r:=none) X J hp ht λb=>?_);rintro⟨cd,hc,hd'⟩:PySem.W.any_some hh;have hx:s.heap.get? x=some #[.ref C,some dx,.plain,[].toArray]:=I.obj;refine wB (wpAny_pure (wB (wB (wpAny_loadPart hx (wB (Looks.here (s:={s with toks:=s.toks+1}) (PySem.W.looks_clsIn X hc) ?_))))));rw[hd'];refine wpAny_pure (a:=some dx) (wB (wpAny_pure (wB ?_)));refine wpAny_nsSet1 (s:={s with toks:=s.toks+1}) I.ns λh' hn2 hs2=>?_
 rintro⟨oD,esD,epD,hoD,hdD,hcD⟩:hn2.count (PySem.Within.cons name v hw);refine wB (wpAny_lookBehind hoD (by rw[hdD];exact pastItsLine_dict (Nat.le_trans hcD (by rw[lC];lia))) ?_);exact wpAny_pure (h _ #[(hs2.2 _ (Ne.symm I.ne)).trans I.obj,hn2,I.ne] hs2)
theorem Pc{R:Result->Shared->Prop}{vs:List Value}{kw:List (Str×Value)}(X:K.In s.heap)(hm:makesIn K C=true)
 (hi:findIn K (.ref C) "__init__"=some (some (.ref f)))(hf:typeIn K (.ref f)=some (.type "function"))
 (h:codeAny (model prog w) (A.under (.builtin "type.__call__" #[.ref C::vs,kw])) (.call (.ref f) #[.ref (s.heap.objs.size + 1)::vs,kw]) (PySem.W.InitBack (s.heap.objs.size + 1) R)
   {s with heap:=(s.heap.push emptyDict).push (instObj C s.heap.objs.size)}):
 codeAny (model prog w) A (.call (.ref C) #[vs,kw]) R s:=by
 rintro⟨hh,g,d,t,os⟩:s;exact PySem.W.make_core (PySem.W.makes_of X hm) (PySem.W.looks_findIn X hi) (λself=>PySem.W.bind_fn X self hf) (.inl rfl) h
end
def Bz(f:Str)(v:V):List (Str×V)->List (Str×V)
 |[]=>[(f,v)]
 |(g,x)::r=>if g=f then(g,v)::r else(g,x)::Bz f v r
theorem Fj(f g:Str)(v:V):∀fs:List (Str×V),(Bz f v fs).lookup g=if g=f then some v else fs.lookup g
 | []=>by
   show List.lookup g [(f,v)]=_
   by_cases h:g=f
   .have hb:(g == f)=true:=beq_iff_eq.mpr h;simp only[List.lookup,hb,iP h]
   .have hb:(g == f)=false:=beq_eq_false_iff_ne.mpr h;simp only[List.lookup,hb,iN h]
 | (k, x)::r=>by
   have ih:=Fj f g v r;rw[show Bz f v ((k,x)::r)=(if k=f then(k,v)::r else(k,x)::Bz f v r)from rfl]
   by_cases hk:k=f
   .rw[iP hk]
    by_cases h:g=k
    .have hb:(g == k)=true:=beq_iff_eq.mpr h;simp only[List.lookup,hb,iP (h.trans hk)]
    .have hb:(g == k)=false:=beq_eq_false_iff_ne.mpr h;simp only[List.lookup,hb,iN (λe:g=f=>h (e.trans hk.symm))]
   .rw[iN hk]
    by_cases h:g=k
    .have hb:(g == k)=true:=beq_iff_eq.mpr h;simp only[List.lookup,hb,iN (λe:g=f=>hk (h.symm.trans e))]
    .have hb:(g == k)=false:=beq_eq_false_iff_ne.mpr h;simp only[List.lookup,hb];exact ih
theorem EX(f:Str)(v:V):∀fs:List (Str×V),f∈(Bz f v fs).map (·.1)/\∀g,g∈fs.map (·.1)->g∈(Bz f v fs).map (·.1)
 |[]=>#[by simp[Bz],λg h=>by simp at h]
 | (k, x)::r=>by
   rintro⟨i1,i2⟩:EX f v r;rw[show Bz f v ((k,x)::r)=(if k=f then(k,v)::r else(k,x)::Bz f v r)from rfl]
   by_cases hk:k=f
   .rw[iP hk];subst hk;exact#[by simp,λg h=>by simpa using h]
   .rw[iN hk];refine#[?_,λg h=>?_]
    .rw[map_cons];exact mem_cons_of_mem _ i1
    .rw[map_cons]at h ⊢;rcases mem_cons.mp h with e|e
     .exact mem_cons.mpr (.inl e)
     .exact mem_cons_of_mem _ (i2 g e)
theorem Fp(f:Str)(v:V):∀fs:List (Str×V),(Bz f v fs).length<=fs.length + 1
 |[]=>by simp[Bz]
 | (k,x)::r=>by
   have ih:=Fp f v r;rw[show Bz f v ((k,x)::r)=(if k=f then(k,v)::r else(k,x)::Bz f v r)from rfl]
   by_cases hk:k=f
   .rw[iP hk,lC,lC];lia
   .rw[iN hk,lC,lC];lia
theorem Hk.some_of{o:Option Value}(r:Hk (some v) o):∃u,o=some u/\RelV v u:=by
 cases o with
 |none=>exact(show False from r).elim
 |some u=>exact#[u,rfl,r]
theorem Hk.none_of{o:Option Value}(r:Hk none o):o=none:=by
 cases o with
 |none=>rfl
 |some u=>exact(show False from r).elim
theorem Nq(r:RelV v u):handedIn u=true:=by
 cases v with
 |AG=>cases (show u=Value.none from r);rfl
 |bl b=>cases (show u=Value.bool b from r);rfl
 |int i=>rintro⟨t,e⟩:(show ∃t,u=Value.int i t from r);cases e;rfl
 |str x=>rintro⟨t,e⟩:(show ∃t,u=Value.str x t from r);cases e;rfl
 |XI b=>rintro⟨t,e⟩:(show ∃t,u=Value.bytes b t from r);cases e;rfl
 |a9 b=>rintro⟨t,e⟩:(show ∃t,u=Value.float b t from r);cases e;rfl
 |ref a=>cases (show u=Value.ref a from r);rfl
 |ty n=>cases (show u=Value.type n from r);rfl
section
variable{P:Program}{w:World}{h:Heap}{a C dx:Addr}{fs fs':List (Str×V)}
theorem IK(Aj:DC P w H h)(e:H a=some (.ins C dx fs)):∃mA,LH h a dx C mA/\(∀f,Hk (fs.lookup f) (mA f))/\PySem.Within mA (fs.map (·.1))/\fs.length<=1000/\H dx=some (.own a):=by
 rintro⟨d,z,ne,ob,mA,n,r,q⟩:(show Br P w H h a (.ins C dx fs)from Aj a _ e);exact#[mA,#[ob,n,ne],r,q,z,d]
end
structure Kq(K:Frag)(C:Addr):Prop where
 pg:plainGet K C Str.empty=true
 hd:hasDictIn K C=true
 po:plainOver K C=true
 sa:findIn K (.ref C) "__setattr__"=some (some (.builtin "object.__setattr__"))
theorem Kq.get{K:Frag}{C:Addr}(c:Kq K C)(f:Str):plainGet K C f=true:=c.pg
def C5(K:Frag)(C:Addr)(f:Str):Prop:=findIn K (.ref C) f=some none
theorem C5.Yi{K:Frag}{C:Addr}(n:C5 K C f):takerIn K C f=some none:=by
 unfold takerIn;rw[show findIn K (.ref C) f=some none from n];rfl
structure Meth(K:Frag)(C:Addr)(m:Str)(f:Addr):Prop where
 at_:findIn K (.ref C) m=some (some (.ref f))
 fn:isFn K (.ref f)=true
 kp:keepIn K (.ref f)=true
section
variable{Y:St}{a C dx:Addr}{fs:List (Str×V)}{f:Str}{v:V}{A:Around}{E:Va}
theorem Li{b:Bool}{Q:Va}(I:∅)(e:H a=some (.ins C dx fs))(c:Kq X.K C)(n:C5 X.K C f)(l:fs.lookup f=some v)
 (h:∀u s',Inv X p0 Y H s'->RelV v u->Q u s'):wpAny (model X.prog X.w) A (getAttr (.ref a) f b) Q E s:=by
 rintro⟨mA,O,r,_,_,_⟩:IK I.Aj e;rintro⟨u,hu,ru⟩:Hk.some_of (v:=v) (o:=mA f) (by rw[<-l];exact r f);exact get_map I.Gz O (c.get f) c.hd n hu (Nq ru) (h u _ (I.tok _) ru)
theorem Lh{pl:Sem Bool}{Q:Value×List Value->Shared->Prop}(I:∅)(e:H a=some (.ins C dx fs))(c:Kq X.K C)(k:Meth X.K C m g)(l:fs.lookup m=none)
 (h:Q (.ref g,[.ref a]) s):wpAny (model X.prog X.w) A (getMethod (.ref a) m pl) Q E s:=by
 rintro⟨mA,O,r,_,_,_⟩:IK I.Aj e;have hn:mA m=none:=Hk.none_of (by rw[<-l];exact r m);exact Q1 I.Gz O (c.get m) k.at_ k.fn hn h
theorem KG{Q:Unit->Shared->Prop}(I:∅)(e:H a=some (.ins C dx fs))(c:Kq X.K C)(n:C5 X.K C f)(hl:fs.length < 1000)(ry:RelV y u)
 (h:∀s',Inv X p0 Y (upd H a (.ins C dx (Bz f y fs))) s'->Q () s'):wpAny (model X.prog X.w) A (setAttr (.ref a) f u) Q E s:=by
 rintro⟨mA,O,r,wi,_,ho⟩:IK I.Aj e;have hz:(fs.map (·.1)).length<=sizeLine:=by rw[lM,sizeLine_eq];lia
 refine RC I.Gz O c.sa c.po n.Yi c.hd wi hz λh' O' sb=>h _ ?_
 have hd:∃o,h'.get? dx=some o:=let⟨o,_,_,e',_⟩:=O'.ns;#[o,e'];refine I.write (x:=a) (e:=dx) (by rw[e];exact True.intro) (.inr ho) (λb q hb z=>(sb.2 b hb).trans z) hd ?_;refine#[by rw[A4 O.ne];exact ho,?_,O.ne,O'.obj,_,O'.ns,λg=>?_,λg hg=>?_]
 .have:=Fp f y fs;lia
 .show Hk ((Bz f y fs).lookup g) (if g=f then some u else mA g);rw[Fj]
  by_cases q:g=f
  .rw[iP q,iP q];exact ry
  .rw[iN q,iN q];exact r g
 .by_cases q:g=f
  .rw[q];exact(EX f y fs).1
  .refine(EX f y fs).2 g (wi g λz=>hg ?_);show(if g=f then some u else mA g)=none;rw[iN q];exact z
theorem Inv.made(I:∅):Inv X p0 Y (upd (upd H s.heap.objs.size (.own (s.heap.objs.size + 1))) (s.heap.objs.size + 1) (.ins C s.heap.objs.size []))
 {s with heap:=(s.heap.push emptyDict).push (instObj C s.heap.objs.size)}:=by
 have e1:(s.heap.push emptyDict).get? s.heap.objs.size=some emptyDict:=Heap.get?_push_size s.heap rfl
 have e2:((s.heap.push emptyDict).push (instObj C s.heap.objs.size)).get? (s.heap.objs.size + 1)=some (instObj C s.heap.objs.size):=by
  have:=Heap.get?_push_size (s.heap.push emptyDict) (o:=instObj C s.heap.objs.size) rfl;rwa[Heap.size_push]at this
 have e3:(s.heap.push emptyDict).Ns s.heap.objs.size (λ_=>none):=#[emptyDict,[].toArray,_,e1,rfl,(λe he=>absurd he (by simp)),λ_=>rfl];have I1:=I.laid (a:=s.heap.objs.size) (o:=.own (s.heap.objs.size+1)) (h':=s.heap.push emptyDict) (t':=s.toks) (λb u q=>gP q) (Nat.le_refl _) #[_,e1];refine I1.laid (a:=s.heap.objs.size+1) (o:=.ins C s.heap.objs.size []) (t':=s.toks) (λb u q=>gP q) (Nat.le_of_eq (Heap.size_push _ _)) ?_;have ne:s.heap.objs.size≠s.heap.objs.size+1:=Nat.ne_of_lt (Nat.lt_succ_self _);refine#[by rw[A4 ne,A6],Nat.zero_le _,ne,e2,λ_=>none,(Heap.Ns1.of_empty e3).at λo q=>gP q,λ_=>True.intro,λy hy=>absurd rfl hy]
theorem TB{prog:Program}{w:World}{env:Env}{pos:Pos}{s:Shared}{Q:Va}(hb:attributeBase e f env (eval e env)=eval e env)
 (h:wpAny (model prog w) A (eval e env) (λo s₁=>wpAny (model prog w) A (getAttr o f true) Q E s₁) E s):wpAny (model prog w) A (eval (.Attribute e f pos) env) Q E s:=
 Attribute_any_ h (by rw[arm_eval_Attribute,hb])
end
def Ve(K:Frag)(ta:TE)(f:Str):TE:=λY H Q=>ta Y H λx H1=>∃a C dx fs v,x= .ref a/\H1 a=some (.ins C dx fs)/\Kq K C/\C5 K C f/\fs.lookup f=some v/\Q v H1
def YD(K:Frag)(ta tv:TE)(f:Str):TS:=λD Y H=>tv Y H λy H1=>ta Y H1 λx H2=>∃a C dx fs,x= .ref a/\H2 a=some (.ins C dx fs)/\Kq K C/\C5 K C f/\fs.length < 1000/\
 D.nx Y (upd H2 a (.ins C dx (Bz f y fs)))
section
variable{o e value:Expr}{f:Str}{pos' tpos:Pos}{ta tv:TE}
theorem OQ(he:PE X e ta)(hb:attributeBase e f X.env (eval e X.env)=eval e X.env):PE X (.Attribute e f pos) (Ve X.K ta f):=by
 intro p0 s Y H Q I h;refine TB hb (AS (he p0 s Y H _ I h) λu s1 ⟨x,H1,I1,rx,a,C,dx,fs,v,ex,ea,c,n,l,q⟩=>?_);subst ex;obtain rfl:u=Value.ref a:=rx;exact Li I1 ea c n l λu' s2 I2 ru=>#[v,H1,I2,ru,q]
theorem VL(ha:PE X o ta)(hv:PE X value tv)(hs:swapsWith value (some (.Attribute o f pos')) pos.line X.env=pure false):PS X (.Assign [.Attribute o f pos'] value pos) (YD X.K ta tv f):=by
 intro p0 s Y H D I h;refine plainObj_wpAny_Assign_Attribute (AS (hv p0 s Y H _ I h) λu s1 ⟨y,H1,I1,ry,q⟩=>AS (ha p0 s1 Y H1 _ I1 q) λov s2 ⟨x,H2,I2,rx,a,C,dx,fs,ex,ea,c,n,l,q2⟩=>?_) hs;subst ex;obtain rfl:ov=Value.ref a:=rx;exact KG I2 ea c n l ry λs3 I3=>#[Y,_,I3,q2]
end
structure BU(k:Nat)(A:Around):Prop where
 hd:A.handled=none
 dp:A.depth+3*k+5 < recursionLimit
 un:A.units+16*k+200 < cLine
theorem BU.mono{k:Nat}{A:Around}(r:BU k A)(h:j<=k):BU j A:=#[r.hd,by have:=r.dp;lia,by have:=r.un;lia]
theorem BU.deeper{k:Nat}{A:Around}(r:BU (k + 1) A)(env:Env):BU k (A.deeper env):=
 #[r.hd,by have:=r.dp;show A.depth+1+3*k+5 < _;lia,by have:=r.un;show A.units+3+16*k+200 < _;lia]
variable{kw:List (Str×Value)}
theorem L3{A:Around}{C:Addr}:(A.under (.builtin "type.__call__" #[.ref C::us,kw])).depth=A.depth + 1:=by
 first|rfl|simp[Around.under,Code.weight,Code.isCreation,Code.isGuard,Code.isCaller,Code.frames,Code.isFrame,guardIds]
theorem L1{A:Around}{C:Addr}:(A.under (.builtin "type.__call__" #[.ref C::us,kw])).units=A.units + 1:=by
 first|rfl|simp[Around.under,Code.cUnits,Code.frames,Code.isFrame]
theorem BU.make{k:Nat}{A:Around}(r:BU (k + 1) A)(C:Addr)(us:List Value)(kw:List (Str×Value)):BU k (A.under (.builtin "type.__call__" #[.ref C::us,kw])):=
 #[r.hd,by have:=r.dp;rw[L3];lia,by have:=r.un;rw[L1];lia]
theorem BU.depth{k:Nat}{A:Around}(r:BU k A):A.depth < recursionLimit:=by have:=r.dp;lia
def O5:TA:=λ_ H Q=>Q [] H
def Jr(ta:TE)(tr:TA):TA:=λY H Q=>ta Y H λx H1=>tr Y H1 λxs H2=>Q (x::xs) H2
variable{e:Expr}{es:List Expr}{te:TE}{t:TA}
theorem Bv:PA X [] O5:=λ_ _ _ _ H Q I h=>Calls.spliced_nil #[[],H,I,.nil,h]
theorem AB(ha:PE X e te)(hr:PA X es t)(hs:starEach (e::es) X.env=(false,eval e X.env)::starEach es X.env:=by rfl):PA X (e::es) (Jr te t):=by
 intro pos p0 s Y H Q I h;rw[hs];show wpAny _ _ (spliced ((false,eval e X.env)::backTo pos (starEach es X.env))) _ _ s;refine Calls.spliced_cons (AS (ha p0 s Y H _ I h) λu s1 ⟨x,H1,I1,r1,q1⟩=>?_);exact AS (hr pos p0 s1 Y H1 _ I1 q1) λus s2 ⟨xs,H2,I2,r2,q2⟩=>#[x::xs,H2,I2,.cons r1 r2,q2]
def aB(t:TA):TE:=λY H Q=>t Y H λxs H1=>xs.length<=sizeLine/\∀p,H1 p=none->Q (.ref p) (upd H1 p (.tup xs))
def aD(t:TA):TE:=λY H Q=>t Y H λxs H1=>xs.length<=sizeLine/\∀p,H1 p=none->Q (.ref p) (upd H1 p (.lst xs))
theorem VO{x1}(h:PA X es t):PE X (.Tuple es x1 pos) (aB t):=by
 intro p0 s Y H Q I hq;refine wpAny_Tuple_spliced (AS (h pos p0 s Y H _ I hq) λus s1 ⟨xs,H1,I1,r,z,q⟩=>#[by rw[<-r.length];exact z,?_]);have hf:H1 s1.heap.objs.size=none:=I1.Aj.fresh (Nat.le_refl _);refine#[.ref s1.heap.objs.size,upd H1 s1.heap.objs.size (.tup xs),I1.laid (t':=s1.toks) (λb u e=>gP e) (Nat.le_refl _) ?_,rfl,q _ hf];exact#[z,us,r,#[_,Heap.get?_push_size _ rfl,rfl,_,rfl]]
theorem VS(h:PA X es t):PE X (.List es pos) (aD t):=by
 intro p0 s Y H Q I hq;refine wpAny_List_spliced (AS (h pos p0 s Y H _ I hq) λus s1 ⟨xs,H1,I1,r,z,q⟩=>#[by rw[<-r.length];exact z,?_]);have hf:H1 s1.heap.objs.size=none:=I1.Aj.fresh (Nat.le_refl _);refine#[.ref s1.heap.objs.size,upd H1 s1.heap.objs.size (.lst xs),I1.laid (t':=s1.toks) (λb u e=>gP e) (Nat.le_refl _) ?_,rfl,q _ hf];exact#[z,us,0,r,Heap.get?_push_size _ rfl]
abbrev Sp:=List V->Hp->VK->XK->Prop
abbrev Xs:=List Env->Hp->Shared->XK->Value->Shared->Prop
structure FR(P:Program)(w:World)(K:Frag)(mg:Str->Option Value)(base:Heap)(A:Around)(outer:List Env)(s:Shared)(H:Hp):Prop where
 frames:A.frames=some outer
 mod:Mod K mg base
 bs:∀b o,base.get? b=some o->s.heap.get? b=some o/\H b=none
 UN:base.objs.size<=s.heap.objs.size
 FK:s.heap.FunFrames base outer
 XG:∀b∈Lk outer,H b=none
 Aj:DC P w H s.heap
 bare:AllBare s.gens
def CE(outer:List Env)(P:Program)(w:World)(H:Hp)(s:Shared)(Q:VK)(u:Value)(s':Shared):Prop:=
 ∃v H',s'.os=s.os/\AllBare s'.gens/\Un (Lk outer) [] H H' s.heap s'.heap/\DC P w H' s'.heap/\RelV v u/\Q v H'
def CR(CX:Xs)(outer:List Env)(P:Program)(w:World)(H:Hp)(s:Shared)(Q:VK)(E:XK)(r:Result)(s':Shared):Prop:=
 match r with
 |.ok (.ret u)=>CE outer P w H s Q u s'
 |.ok _=>False
 |.error e=>CX outer H s E e s'
structure GV(P:Program)(w:World)(K:Frag)(mg:Str->Option Value)(base:Heap)(CX:Xs)(k:Nat)(f:Addr)(fd:FuncData)(ps:List Str)(sp:Sp):Prop where
 len:∀vs H Q E,sp vs H Q E->vs.length=ps.length
 run:∀(A:Around) (outer:List Env) (s:Shared) (H:Hp) (args:Args) (us:List Value) (vs:List V) (Q:VK) (E:XK),BU k A->FR P w K mg base A outer s H->BindsTo s fd args (ps.zip us)->Vals vs us->sp vs H Q E->
  codeAny (model P w) A (.call (.ref f) args) (CR CX outer P w H s Q E) s
variable{mg:Str->Option Value}{base:Heap}{CX:Xs}{fd:FuncData}{sp:Sp}
theorem GV.imp{P:Program}{w:World}{K:Frag}{k:Nat}{ps:List Str}{sp':Sp}(F:GV P w K mg base CX k f fd ps sp)
 (h:∀vs H Q E,sp' vs H Q E->sp vs H Q E):GV P w K mg base CX k f fd ps sp':=
 #[λvs H Q E q=>F.len vs H Q E (h _ _ _ _ q),λA outer s H args us vs Q E hr he hb hv hs=>F.run A outer s H args us vs Q E hr he hb hv (h _ _ _ _ hs)]
theorem FR.make{P:Program}{w:World}{K:Frag}{A:Around}{outer:List Env}(e:FR P w K mg base A outer s H)(C:Addr)(us:List Value)(kw:List (Str×Value)):
 FR P w K mg base (A.under (.builtin "type.__call__" #[.ref C::us,kw])) outer s H:=#[by first|exact e.frames|(simpa[Around.under,Code.envs,Code.isFrame,pushEnvs]using e.frames),e.mod,e.bs,e.UN,e.FK,e.XG,e.Aj,e.bare]
section
variable{Y:St}{s':Shared}
theorem Inv.ZC(I:∅):FR X.prog X.w X.K X.mg X.base X.A X.stack s H:=
 #[I.ok.frames,I.ok.mod,I.bs,Nat.le_trans I.ok.UN I.sz,I.stack,I.Io,I.Aj,I.bare]
theorem Inv.after{Q:VK}(I:∅)(h:CE X.stack X.prog X.w H s Q u s'):EP X p0 Y Q u s':=by
 rintro⟨v,H',os,bare,un,Aj,r,q⟩:h;rintro⟨hh,g,d,t,os'⟩:s';obtain rfl:os'=s.os:=os;exact#[v,H',I.call (h':=hh) (g':=g) (d':=d) (t':=t) (ch:=[]) un Aj bare (λb z=>absurd z (by simp)),r,q]
end
def U9(C:Addr)(sp:Sp)(dvs:List V)(E:XK)(t:TA):TE:=λY H Q=>t Y H λvs H1=>∀x dx,H1 x=none->H1 dx=none->dx≠x->
 sp (.ref x::(vs++dvs)) (upd (upd H1 dx (.own x)) x (.ins C dx [])) (λv H2=>v= .AG/\Q (.ref x) H2) E
def Binds(K:Frag)(fd:FuncData)(ps:List Str)(ds:List Value):Prop:=
 ∀(s:Shared) (us:List Value),K.In s.heap->(us++ds).length=ps.length->BindsTo s fd #[us,[]] (ps.zip (us++ds))
theorem Binds.all{K:Frag}{ps:List Str}(h:∀us:List Value,us.length=ps.length->bindArgs fd #[us,[]]=pure (ps.zip us)):Binds K fd ps []:=λs us _ hl=>by
 rw[append_nil]at hl ⊢;exact .of_eq (h us hl)
section
variable{CX:Xs}{k:Nat}{f C:Addr}{fd:FuncData}{ps:List Str}{sp:Sp}{dvs:List V}{ds:List Value}{E:XK}{x m:Str}{p apos:Pos}{o:Expr}{ta:TE}
structure Mk(K:Frag)(C f:Addr):Prop where
 makes:makesIn K C=true
 init:findIn K (.ref C) "__init__"=some (some (.ref f))
 fn:isFn K (.ref f)=true
 kp:keepIn K (.ref C)=true
end
structure EG(N P:List Str)(sc:Scope):Prop where
 kind:sc.kind= .function
 co:sc.isCoroutine=false
 gen:sc.isGenerator=false
 nd:N.Nodup
 pre:N.take P.length=P
 par:∀x∈P,sc.names.lookup x=some .local\/sc.names.lookup x=some .cell
 Wo:∀y∈sc.names,y.2≠.free
theorem HU{kindOf:Str->Option NameKind}{x:Str}:∀{binds:List (Str×Value)} {m:Str->Option Value},(∀v,(x,v)∉binds)->bindL kindOf binds m x=m x
 |[],_,_=>rfl
 | (n,v)::r,m,h=>by
   unfold bindL;rw[HU λw hw=>h w (mem_cons_of_mem _ hw)];split
   .have:x≠n:=by rintro rfl;exact h v mS
    simp[this]
   .rfl
theorem HW{kindOf:Str->Option NameKind}{x:Str}:∀{binds:List (Str×Value)} {m:Str->Option Value},(∀v,(x,v)∉binds)->bindC kindOf binds m x=m x
 |[],_,_=>rfl
 | (n,v)::r,m,h=>by
   unfold bindC;rw[HW λw hw=>h w (mem_cons_of_mem _ hw)];split
   .rfl
   .have:x≠n:=by rintro rfl;exact h v mS
    simp[this]
theorem HV{kindOf:Str->Option NameKind}{x:Str}{v:Value}:∀{P:List Str} {vs:List Value} {i:Nat} {m:Str->Option Value},P.Nodup->P[i]? =some x->vs[i]? =some v->kindOf x=some .local->
 bindL kindOf (P.zip vs) m x=some v
 |[],_,_,_,_,h,_,_=>by simp at h
 |_::_,[],_,_,_,_,h,_=>by simp at h
 | p::P,w::vs,0,m,nd,h1,h2,hk=>by
   simp at h1 h2;subst h1;subst h2;show bindL kindOf ((p,w)::P.zip vs) m p=_;unfold bindL;rw[HU λv hv=>(nodup_cons.mp nd).1 (of_mem_zip hv).1,iP hk];simp
 | p::P,w::vs,i + 1,m,nd,h1,h2,hk=>by
   show bindL kindOf ((p,w)::P.zip vs) m x=_;unfold bindL;exact HV (i:=i) (nodup_cons.mp nd).2 (by simpa using h1) (by simpa using h2) hk
theorem HX{kindOf:Str->Option NameKind}{x:Str}{v:Value}:∀{P:List Str} {vs:List Value} {i:Nat} {m:Str->Option Value},P.Nodup->P[i]? =some x->vs[i]? =some v->kindOf x≠some .local->
 bindC kindOf (P.zip vs) m x=some v
 |[],_,_,_,_,h,_,_=>by simp at h
 |_::_,[],_,_,_,_,h,_=>by simp at h
 | p::P,w::vs,0,m,nd,h1,h2,hk=>by
   simp at h1 h2;subst h1;subst h2;show bindC kindOf ((p,w)::P.zip vs) m p=_;unfold bindC;rw[HW λv hv=>(nodup_cons.mp nd).1 (of_mem_zip hv).1,iN hk];simp
 | p::P,w::vs,i + 1,m,nd,h1,h2,hk=>by
   show bindC kindOf ((p,w)::P.zip vs) m x=_;unfold bindC;exact HX (i:=i) (nodup_cons.mp nd).2 (by simpa using h1) (by simpa using h2) hk
def start(N:List Str)(vs:List V):St:=vs.map some++List.replicate (N.length-vs.length) none
noncomputable def LA(CX:Xs)(P:Program)(w:World)(K:Frag)(mg:Str->Option Value)(base:Heap)(N:List Str)(qual:Str)(scope:Scope)(f:Addr)(cd:Value)(A:Around)(outer:List Env)(s:Shared)(H:Hp)(E:XK):Cx where
 prog:=P
 w:=w
 K:=K
 mg:=mg
 base:=base
 A:=A.deeper (envOfC qual scope s.heap.objs.size f cd)
 N:=N
 s₀:=s
 H₀:=H
 env:=envOfC qual scope s.heap.objs.size f cd
 outer:=outer
 stack:=envOfC qual scope s.heap.objs.size f cd::outer
 ex:=[]
 calm:=true
 fn:=λ_=>true
 pn:=[]
 xe:=λe s'=>wpAny (model P w) (A.deeper (envOfC qual scope s.heap.objs.size f cd)) (leaving (envOfC qual scope s.heap.objs.size f cd) e) (λ_ s''=>CX outer H s E e s'') (λe' s''=>CX outer H s E e' s'') s'
theorem Kc{sc:Scope}{n:Nat}(h:sc.names.lookup x=some .cell):∃c,(cellsFrom n sc.names []).lookup x=some c:=by
 have q:=cellsFrom_some sc.names n [] (.inl h);exact Option.isSome_iff_exists.mp q
variable{qual:Str}
theorem Nk{P:Program}{w:World}{K:Frag}{N ps:List Str}{scope:Scope}{cd:Value}{A:Around}{outer:List Env}{s1:Shared}{E:XK}{vs:List V}
 (S:EG N ps scope)(hd:A.handled=none)(e0:FR P w K mg base A outer s H)(hl:vs.length=ps.length)(r:Vals vs us)
 (x:InCallC s s.heap.objs.size (bindL (envOfC qual scope s.heap.objs.size f cd).kindOf (ps.zip us) λ_=>none) (cellsFrom (s.heap.objs.size+1) scope.names []) (bindC (envOfC qual scope s.heap.objs.size f cd).kindOf (ps.zip us) λ_=>none) s1):
 Inv (LA CX P w K mg base N qual scope f cd A outer s H E) [] (start N vs) H s1:=by
 have hpl:ps.length<=N.length:=by have:=congrArg List.length S.pre;rw[length_take]at this;lia
 rintro⟨h1,tk,rfl,hk⟩:x.done;have noA:∀b:Addr,b∉(LA CX P w K mg base N qual scope f cd A outer s H E).ex:=λb z=>absurd (show b∈([]:List Addr)from z) (by simp)
 refine⟨#[e0.mod,S.kind,rfl,rfl,Nat.le_refl _,λy z c h1 h2=>?_,λy hy=>?_,λy c _ h=>?_,λ_=>hd,Around.frames_deeper e0.frames,.inr #[rfl,rfl],λb z=>absurd z (noA b),e0.bs,e0.UN,λb _ _=>noA b,λb z=>absurd z (noA b),e0.FK,e0.XG],
  rfl,e0.bare,Un.kept hk,#[_,x.toInCall.ns,λi y v h1 h2 h3=>?_],λy c h=>#[_,x.cell y c h],e0.Aj.fresh (Nat.le_refl _),λy c h=>?_,λp hp=>absurd (show p∈([]:Oa)from hp) (by simp),e0.Aj.kept hk,?_⟩
 .exact name_of_addr x.apart (PySem.mem_of_lookup h1) (PySem.mem_of_lookup h2)
 .have hy:scope.names.lookup y=some .cell\/scope.names.lookup y=some .free:=hy;rcases hy with hy|hy
  .exact Kc hy
  .exact absurd rfl (S.Wo _ (PySem.mem_of_lookup hy))
 .exact Nat.le_of_lt (x.above y c (PySem.mem_of_lookup h))
 .have hi:i < vs.length:=by
   unfold start at h2
   by_cases hi:i < vs.length
   .exact hi
   .rw[List.getElem?_append_right (by simpa using hi)]at h2;rw[List.getElem?_replicate]at h2;split at h2<;>cases h2
  have ha:vs[i]? =some v:=by
   unfold start at h2;rw[List.getElem?_append_left (by simpa using hi),List.getElem?_map]at h2;cases e:vs[i]? with
   |none=>rw[e]at h2;cases h2
   |some a=>rw[e]at h2;cases h2;rfl
  rintro⟨u,hu,rv⟩:r.get ha
  have hp:ps[i]? =some y:=by
   rw[<-S.pre,List.getElem?_take_of_lt (by lia)];exact h1
  have ndP:ps.Nodup:=by rw[<-S.pre];exact S.nd.sublist (List.take_sublist _ _)
  refine#[u,rv,?_];rcases S.par y (mem_of_getElem? hp)with k|k
  .exact .inl #[k,HV ndP hp hu k]
  .obtain⟨c,e⟩:=Kc (n:=s.heap.objs.size+1) k;refine .inr #[.inl k,c,e,?_];have q:=x.cell y c e;rw[HX ndP hp hu (by show scope.names.lookup y≠_;rw[k];decide)]at q;exact q
 .exact e0.Aj.fresh (Nat.le_of_lt (x.above y c (PySem.mem_of_lookup h)))
 .unfold start;show _=N.length;rw[lA,lM,List.length_replicate]
  lia
theorem Q4{P:Program}{w:World}{K:Frag}{k:Nat}{name:Str}{params:Arguments}{scope:Scope}{dV kV doc pm cdv ct oc:Value}{an od:Option Addr}
 {osl:Array (Option Value)}{N ps:List Str}(lk:K.lookup f=some #[oc,od,.func (fnOf name qual params body scope dV kV doc pm an cdv ct),osl])(hcd:codeIn K cdv qual=true)(S:EG N ps scope)
 (len:∀vs H Q E,sp vs H Q E->vs.length=ps.length)
 (hbody:∀(A:Around) (outer:List Env) (s:Shared) (H:Hp) (vs:List V) (Q:VK) (E:XK),BU k (A.deeper (envOfC qual scope s.heap.objs.size f cdv))->sp vs H Q E->
  ∃t,NJ (LA CX P w K mg base N qual scope f cdv A outer s H E) body t/\t {nx:=λ_ H'=>Q .AG H',rt:=Q} (start N vs) H):
 GV P w K mg base CX (k+1) f (fnOf name qual params body scope dV kV doc pm an cdv ct) ps sp:=by
 refine#[len,λA outer s H args us vs Q E hr e0 hb r hsp=>?_];have hl:=len _ _ _ _ hsp;have KX:K.In s.heap:=e0.mod.By.keeps λb o e=>(e0.bs b o e).1
 have lim:s.heap.NoLimit:=e0.mod.nolimit.keeps λb o e=>(e0.bs b o e).1
 have hkind:∀y∈ps.zip us,scope.names.lookup y.1=some .local\/(scope.names.lookup y.1=some .cell/\((cellsFrom (s.heap.objs.size + 1) scope.names []).lookup y.1).isSome=true):=λ⟨n,v⟩ hy=>by
  rcases S.par n (of_mem_zip hy).1 with q|q
  .exact .inl q
  .exact .inr #[q,cellsFrom_some _ _ _ (.inl q)]
 refine codeAny_call_function hr.depth (KX _ _ lk) rfl S.co S.gen rfl (PySem.W.codeRec_of KX hcd) (hb _ _ _ _ ?_);refine wpAny_newFunctionEnv_cells S.kind hkind λenv he s1 x=>?_
 subst he;refine#[lim.keeps x.toInCall.keep,codeAny_func ?_];rintro⟨t,ht,hq⟩:hbody A outer s H vs Q E (hr.deeper _) hsp;have I:Inv (LA CX P w K mg base N qual scope f cdv A outer s H E) [] (start N vs) H s1:=Nk S hr.hd e0 hl r x;refine wpAny_mono (ht [] s1 (start N vs) H _ I hq) (λfl s' hs=>?_) λe s' hs=>hs
 have fin:∀{Y':St} {H':Hp} {v:V} {u:Value},Inv (LA CX P w K mg base N qual scope f cdv A outer s H E) [] Y' H' s'->RelV v u->Q v H'->CE outer P w H s Q u s':=
  λ{Y' H' v u} J rv q=>#[v,H',J.os,J.bare,J.base,J.Aj,rv,q]
 cases fl with
 |ret u=>
   rintro⟨v,Y',H',J,rv,q⟩:hs;exact fin J rv q
 |next=>
   rintro⟨Y',H',J,q⟩:hs;exact fin (v:=V.AG) (u:=Value.none) J rfl q
 |brk=>
   rintro⟨_,_,_,q⟩:hs;exact False.elim q
 |cont=>
   rintro⟨_,_,_,q⟩:hs;exact False.elim q
section
variable{x:Str}{p:Pos}{id T:String}{r:List V->Hp->VK->Prop}
def cP(r:List V->Hp->VK->Prop)(t:TA):TE:=λY H Q=>t Y H λvs H1=>r vs H1 Q
theorem Dq(hc:Dh X (.builtin id) r)(hg:Gl X x)(hm:X.mg x=none)(hv:bootBuiltins x=some (.builtin id))(ha:PA X (e::es) t)(hn:x≠"__name__":=by decide)(hdb:ng x:=by decide)
 (he:starEach (e::es) X.env=(false,eval e X.env)::starEach es X.env:=by rfl)(hpl:(backTo pos (starEach es X.env)).any (·.1)=false:=by rfl):PE X (.Call (.Name x p) (e::es) [] pos) (cP r t):=by
 intro p0 s Y H Q I h;refine wpAny_Call_Name_kw (CJ I hg hm hv ?_ hn hdb);exact PyProof.Rows.callWith_builtin1 (AS (ha pos p0 s Y H _ I h) λus s1 ⟨vs,H1,I1,r1,q1⟩=>hc p0 s1 Y H1 vs us Q I1 r1 q1) he hpl
theorem Hv(hc:Dh X (.type T) r)(hg:Gl X x)(hm:X.mg x=none)(hv:bootBuiltins x=some (.type T))(ha:PA X (e::es) t)(hn:x≠"__name__":=by decide)(hdb:ng x:=by decide)
 (he:starEach (e::es) X.env=(false,eval e X.env)::starEach es X.env:=by rfl)(hpl:(backTo pos (starEach es X.env)).any (·.1)=false:=by rfl):PE X (.Call (.Name x p) (e::es) [] pos) (cP r t):=by
 intro p0 s Y H Q I h;refine wpAny_Call_Name_kw (CJ I hg hm hv ?_ hn hdb);exact PyProof.Rows.callWith_type1 (AS (ha pos p0 s Y H _ I h) λus s1 ⟨vs,H1,I1,r1,q1⟩=>hc p0 s1 Y H1 vs us Q I1 r1 q1) he hpl
end
end L2
namespace HT
open PySem PyProof.Rows
section
variable{prog:Program}{w:World}{A:Around}{E:Va}{s:Shared}
def BD(n d:Nat):Option Int->Nat
 |none=>d
 |some v=>if v < 0 then(v+(n:Int)).toNat else min v.toNat n
theorem VB(n d:Nat)(hd:d<=n)(o:Option Int):BD n d o<=n:=by
 cases o with
 |none=>exact hd
 |some v=>
   show(if v < 0 then(v+(n:Int)).toNat else min v.toNat n)<=n
   by_cases hv:v < 0
   .rw[iP hv];lia
   .rw[iN hv];exact Nat.min_le_right _ _
theorem Mw(v:Int)(n d:Nat):(if v < 0 then max (v + (n:Int)) 0 else min v (n:Int))=((BD n d (some v):Nat):Int):=by
 show(if v < 0 then max (v+(n:Int)) 0 else min v (n:Int))=(((if v < 0 then(v+(n:Int)).toNat else min v.toNat n):Nat):Int)
 by_cases hv:v < 0
 .simp only[iP hv];lia
 .simp only[iN hv];lia
theorem LG(lo hi:Option Int)(n:Nat):Builtin.Slice.sliceAdjust lo hi 1 (n:Int)=(((BD n 0 lo:Nat):Int),((BD n n hi:Nat):Int)):=by
 have h1:¬((1:Int) < 0):=by lia
 unfold Builtin.Slice.sliceAdjust;simp only[h1,if_false];refine Prod.ext ?_ ?_
 .cases lo with
  |none=>rfl
  |some v=>exact Mw v n 0
 .cases hi with
  |none=>rfl
  |some v=>exact Mw v n n
theorem KL(i j:Nat):Builtin.Slice.slicePlaces (i:Int) (j:Int) 1=j - i:=by
 unfold Builtin.Slice.slicePlaces;have h1:(1:Int) > 0:=by lia
 simp only[h1,if_true,Int.ediv_one];split<;>lia
theorem Gf{o:Option Int}{Q:Option Int->Shared->Prop}(p:IsPart v o)(h:Q o s):wpAny (model prog w) A (Builtin.Slice.slicePartIndex v) Q E s:=by
 cases p with
 |none=>exact slicePart_none h
 |int i t=>exact slicePart_int h
variable{sl:Addr}{vl vu:Value}
theorem CM{lo hi:Option Int}{n:Nat}{Q:Int×Int×Nat->Shared->Prop}(hs:s.heap.IsSliceOf sl vl vu .none)(pl:IsPart vl lo)(pu:IsPart vu hi)
 (h:Q (((BD n 0 lo:Nat):Int),1,BD n n hi-BD n 0 lo) s):wpAny (model prog w) A (Builtin.Slice.sliceApplied (.ref sl) (pure (n:Int))) Q E s:=by
 rintro⟨os,hos,hcs,hds⟩:id hs;unfold Builtin.Slice.sliceApplied Builtin.Slice.sliceFields;refine wB (wB (wpAny_field hos hds (x:=vl) rfl (wB (wpAny_field hos hds (x:=vu) rfl (wB (wpAny_field hos hds (x:=.none) rfl (wpAny_pure ?_)))))));refine wB (slicePart_none ?_);show wpAny _ _ (if((1:Int) == 0)=true then _ else _) _ _ s;rw[iN (by decide)];refine wB (Gf pl (wB (Gf pu (wB (wpAny_pure ?_)))));show wpAny _ _ (match Builtin.Slice.sliceAdjust lo hi 1 (n:Int)with|(lo,hi)=>pure (lo,(1:Int),Builtin.Slice.slicePlaces lo hi 1)) _ _ s;rw[LG lo hi n];show wpAny _ _ (pure (((BD n 0 lo:Nat):Int),(1:Int),Builtin.Slice.slicePlaces ((BD n 0 lo:Nat):Int) ((BD n n hi:Nat):Int) 1)) _ _ s;rw[KL];exact wpAny_pure h
theorem OH(xs:Array Value)(i k:Nat):((List.range k).filterMap λ(m:Nat)=>xs[((i:Int) + (m:Int) * 1).toNat]?).toArray=((xs.toList.drop i).take k).toArray:=by
 have e:(λ(m:Nat)=>xs[((i:Int) + (m:Int) * 1).toNat]?)=λm=>xs[i + m]? :=by
  funext m
  have:((i:Int)+(m:Int)*1).toNat=i+m:=by lia
  rw[this]
 rw[e];have:=pick_run xs i k;rw[List.filterMap_map]at this;have e2:((λx=>xs[x]?) ∘ λx=>i+x)=λm=>xs[i+m]? :=rfl
 rw[e2]at this;rw[this]
theorem Et{items:Array Value}{lo hi:Option Int}{Q:Va}(ht:IsTup s.heap t items)(hs:s.heap.IsSliceOf sl vl vu .none)(pl:IsPart vl lo)(pu:IsPart vu hi)
 (hw:¬(BD items.size 0 lo=0/\BD items.size items.size hi=items.size))
 (h:Q (.ref s.heap.objs.size) {s with heap:=s.heap.push {cls:=.type "tuple",data:=.seq ((items.toList.drop (BD items.size 0 lo)).take (BD items.size items.size hi-BD items.size 0 lo)).toArray}})
 (hsz:items.size<=sizeLine):wpAny (model prog w) A (getItem (.ref t) (.ref sl)) Q E s:=by
 have htake:sizeOk (.seq ((items.toList.drop (BD items.size 0 lo)).take (BD items.size items.size hi - BD items.size 0 lo)).toArray):=by
  show((items.toList.drop (BD items.size 0 lo)).take (BD items.size items.size hi-BD items.size 0 lo)).toArray.size<=sizeLine;rw[size_toArray,length_take,length_drop,Array.length_toList]
  lia
 have hj:BD items.size items.size hi<=items.size:=VB _ _ (Nat.le_refl _) hi;rintro⟨os,hos,hcs,hds⟩:id hs;have hTs:s.TypeIs (.ref sl) "slice":=#[os,hos,hcs];unfold getItem
 try with_reducible refine wpAny_holding ?_
 first|refine wB (wpAny_pure ?_)|skip
 refine wB (wpAny_sequenceKey ht.typeIs (by decide) ?_)
 refine wB (wpAny_callSpecial?_slot (name:=Str.ofString "__getitem__") ht.typeIs PyProof.Rows.slot_tuple_getitem
  (wpAny_call_entry PyProof.Rows.slot_tuple_getitem ht.typeIs entry_tuple_getitem ?_ (args_tuple_getitem _ _)))
 show wpAny _ _ (Builtin.Tuple.tupleItemsOf (.ref t) >>= _) _ _ s;refine wB (tupleItemsOf_ ht ?_);refine wB (wpAny_typeOf hTs ?_);rw[iP (by decide)];refine wB (CM hs pl pu ?_)
 have hno:¬((((BD items.size 0 lo:Nat):Int) == 0 && (1:Int) == 1 && (BD items.size items.size hi - BD items.size 0 lo) == items.size)=true):=by
  intro q;rw[bA,bA]at q;have q1:((BD items.size 0 lo:Nat):Int)=0:=eq_of_beq q.1.1;have q2:BD items.size items.size hi-BD items.size 0 lo=items.size:=eq_of_beq q.2;exact hw #[by lia,by lia]
 show wpAny _ _ (if(((BD items.size 0 lo:Nat):Int) == 0 && (1:Int) == 1 && (BD items.size items.size hi-BD items.size 0 lo) == items.size)=true then _ else _) _ _ s;rw[iN hno,OH]
 first
  |exact wB (m:=Builtin.Tuple.tupleExact _) (wpAny_newObj_type (wpAny_pure #[_,rfl,wpAny_pure h]) htake)
  |exact wB (m:=Builtin.Tuple.tupleExact _) (wpAny_newObj_type (wB (wpAny_pure (wpAny_pure #[_,rfl,wpAny_pure h]))) htake)
  |exact wB (wB (m:=Builtin.Tuple.tupleExact _) (wpAny_newObj_type (wpAny_pure (wpAny_pure #[_,rfl,wpAny_pure h])) htake))
  |exact wB (wB (m:=Builtin.Tuple.tupleExact _) (wpAny_newObj_type (wpAny_pure #[_,rfl,wpAny_pure h]) htake))
end
end HT
namespace L2
open PySem PySem.Spec PyProof.Rows
abbrev TO:=St->Hp->(Option Int->Hp->Prop)->Prop
def PO(X:Cx)(e:Option Expr)(t:TO):Prop:=
 ∀ (p0:Oa) (s:Shared) (Y:St) (H:Hp) (Q:Option Int->Hp->Prop),∅->t Y H Q->
   (X|||(evalPart e X.env)) (λu s'=>∃o H',Inv X p0 Y H' s'/\IsPart u o/\Q o H') X.xe s
def Ij:TO:=λ_ H Q=>Q none H
def Jp(t:TE):TO:=λY H Q=>t Y H λx H1=>∃i,x= .int i/\Q (some i) H1
section
variable{X:Cx}{e:Expr}{te:TE}{lo hi:Option Expr}{tl th:TO}{pos p2:Pos}
theorem M8:PO X none Ij:=by
 intro p0 s Y H Q I h;rw[evalPart_none];exact wpAny_pure #[none,H,I,.none,h]
theorem FX(h:PE X e te):PO X (some e) (Jp te):=by
 intro p0 s Y H Q I hw;rw[evalPart_some];refine AS (h p0 s Y H _ I hw) λu s1 ⟨x,H1,I1,r1,q1⟩=>?_
 rintro⟨i,rfl,q⟩:q1;rintro⟨t,rfl⟩:r1;exact#[some i,H1,I1,.int i t,q]
def Xn(X:Cx)(r:V->Option Int->Option Int->Hp->VK->Prop):Prop:=
 ∀ (p0:Oa) (s:Shared) (Y:St) (H:Hp) (x:V) (v vl vu:Value) (lo hi:Option Int) (sl:Addr) (Q:VK),∅->RelV x v->s.heap.IsSliceOf sl vl vu .none->IsPart vl lo->IsPart vu hi->r x lo hi H Q->
   ∃T id,typeLookup (.type T) "__getitem__"=pure (some (.builtin id))/\s.TypeIs v T/\(X|||(getItem v (.ref sl))) (EP X p0 Y Q) X.xe s
def ZX(r:V->Option Int->Option Int->Hp->VK->Prop)(te:TE)(tl th:TO):TE:=λY H Q=>te Y H λx H1=>tl Y H1 λl H2=>th Y H2 λu H3=>r x l u H3 Q
theorem Gp{r:V->Option Int->Option Int->Hp->VK->Prop}(hr:Xn X r)(he:PE X e te)(hl:PO X lo tl)(hu:PO X hi th):PE X (.Subscript e (.Slice lo hi none p2) pos) (ZX r te tl th):=by
 intro p0 s Y H Q I h;refine Subscript_ (AS (he p0 s Y H _ I h) λv s1 ⟨x,H1,I1,r1,q1⟩=>?_);refine wpAny_Slice (AS (hl p0 s1 Y H1 _ I1 q1) λvl s2 ⟨l,H2,I2,pl,q2⟩=>AS (hu p0 s2 Y H2 _ I2 q2) λvu s3 ⟨u,H3,I3,pu,q3⟩=>?_);rw[evalPart_none];refine wpAny_pure ?_;have I4:Inv X p0 Y H3 {s3 with heap:=s3.heap.push {cls:=.type "slice",data:=.fields [vl,vu,.none].toArray}}:=I3.kept (t':=s3.toks) λb ob q=>gP q
 rintro⟨T,id,hT,ht,hg⟩:hr p0 {s3 with heap:=s3.heap.push {cls:=.type "slice",data:=.fields [vl,vu,.none].toArray}} Y H3 x v vl vu l u s3.heap.objs.size Q I4 r1 (Heap.IsSliceOf.new ..) pl pu q3;show (X|||(subscriptTail e (.Slice lo hi none p2) v (.ref s3.heap.objs.size))) (EP X p0 Y Q) X.xe {s3 with heap:=s3.heap.push {cls:=.type "slice",data:=.fields [vl,vu,.none].toArray}};exact tail_any (ops:=[.ref s3.heap.objs.size,v]) ht hT hg (by with_unfolding_all rfl)
def K9(xs:List V)(lo hi:Option Int):List V:=(xs.drop (HT.BD xs.length 0 lo)).take (HT.BD xs.length xs.length hi-HT.BD xs.length 0 lo)
theorem Fy(xs:List V)(lo hi:Option Int):(K9 xs lo hi).length<=xs.length:=by
 unfold K9;rw[length_take,length_drop]
 lia
def aI(K:Frag):V->Option Int->Option Int->Hp->VK->Prop:=λx lo hi H Q=>∃a xs,x= .ref a/\D1 K H a xs/\
 ¬(HT.BD xs.length 0 lo=0/\HT.BD xs.length xs.length hi=xs.length)/\∀p,H p=none->Q (.ref p) (upd H p (.tup (K9 xs lo hi)))
theorem Vo:Xn X (aI X.K):=by
 intro p0 s Y H x v vl vu lo hi sl Q I rx hs pl pu h;rintro⟨a,xs,rfl,hx,hw,q⟩:h;cases rx;rintro⟨its,r,ht,hz⟩:I.tuple hx;have hlen:its.toArray.size=xs.length:=by rw[size_toArray];exact r.length.symm
 refine#["tuple",_,PyProof.Rows.slot_tuple_getitem.lookup,ht.typeIs,?_];refine HT.Et ht hs pl pu (by rw[hlen];exact hw) ?_ (by rw[hlen];exact hz);rw[hlen];refine#[.ref s.heap.objs.size,_,I.laid (t':=s.toks) (o:=.tup (K9 xs lo hi)) (λb ob q=>gP q) (Nat.le_refl _) ?_,rfl,q _ (I.Aj.fresh (Nat.le_refl _))];exact#[Nat.le_trans (Fy xs lo hi) hz,_,(r.drop (HT.BD xs.length 0 lo)).take (HT.BD xs.length xs.length hi-HT.BD xs.length 0 lo),IsTup.new _ _]
end
def II(n:Nat)(i:Int):Option Nat:=if 0<=i then(if i < n then some i.toNat else none)else if -(n:Int)<=i then some (i+n).toNat else none
def XJ{α:Type}(xs:List α)(i:Int):Option α:=(II xs.length i).bind λj=>xs[j]?
theorem Mj{n:Nat}{j:Nat}(h:II n i=some j):seqIndex? i n=some j/\j < n/\-(n:Int)<=i/\i < n:=by
 unfold II at h
 by_cases h0:0<=i
 .rw[iP h0]at h
  by_cases h1:i < n
  .rw[iP h1]at h;have e:i.toNat=j:=Option.some.inj h;exact#[by rw[seqIndex_of h0 h1,e],by lia,by lia,h1]
  .rw[iN h1]at h;cases h
 .rw[iN h0]at h
  by_cases h1: -(n:Int)<=i
  .rw[iP h1]at h;have e:(i+n).toNat=j:=Option.some.inj h;exact#[by rw[seqIndex_neg (by lia) h1,e],by lia,h1,by lia]
  .rw[iN h1]at h;cases h
variable{α:Type}
theorem J9{xs:List α}{v:α}(h:XJ xs i=some v):∃j,seqIndex? i xs.length=some j/\xs[j]? =some v/\j < xs.length/\-(xs.length:Int)<=i/\i < xs.length:=by
 unfold XJ at h;cases e:II xs.length i with
 |none=>rw[e]at h;cases h
 |some j=>
   rw[e]at h;rintro⟨h1,h2,h3,h4⟩:Mj e;exact#[j,h1,h,h2,h3,h4]
def MH(b:Expr):Prop:=∀o i,subscripted b false o i=operate [o,i] (getItem o i)
def QK(X:Cx)(r:R2):Prop:=
 ∀ (value slice:Expr) (p0:Oa) (s:Shared) (Y:St) (H:Hp) (x y:V) (v u:Value) (Q:VK),∅->RelV x v->RelV y u->r x y H Q->
   subscripted slice false v u=operate [v,u] (getItem v u)->(X|||(subscriptTail value slice v u)) (EP X p0 Y Q) X.xe s
def Xp(X:Cx)(id:String)(r:V->List V->Hp->VK->Prop):Prop:=
 ∀ (p0:Oa) (s:Shared) (Y:St) (H:Hp) (x:V) (xs:List V) (v:Value) (us:List Value) (Q:VK),∅->RelV x v->Vals xs us->r x xs H Q->
   (X|||(call (.builtin id) (v::us))) (EP X p0 Y Q) X.xe s
section
variable{X:Cx}{a b:Expr}{ta tb:TE}{pos:Pos}
theorem QK.or{r r':R2}(h:QK X r)(h':QK X r'):QK X (λx y H Q=>r x y H Q\/r' x y H Q):=by
 intro value slice p0 s Y H x y v u Q I rx ry q hs;rcases q with q|q
 .exact h value slice p0 s Y H x y v u Q I rx ry q hs
 .exact h' value slice p0 s Y H x y v u Q I rx ry q hs
theorem YS{r:R2}(hr:QK X r)(ha:PE X a ta)(hb:PE X b tb)(hs:MH b):PE X (.Subscript a b pos) (Vc r ta tb):=by
 intro p0 s Y H Q I h;exact Subscript_ (Xl ha hb I h λv u s2 x y H2 I2 rx ry q=>hr a b p0 s2 Y H2 x y v u Q I2 rx ry q (hs _ _))
def YK(K:Frag):R2:=λx y H Q=>∃p xs i v,x= .ref p/\y= .int i/\DO K H p xs/\XJ xs i=some v/\Q v H
def YI(K:Frag):R2:=λx y H Q=>∃p xs i v,x= .ref p/\y= .int i/\D1 K H p xs/\XJ xs i=some v/\Q v H
def YJ:R2:=λx y H Q=>∃z i c,x= .str z/\y= .int i/\z.length<=sizeLine/\XJ z.cps.toList i=some c/\Q (.str #[[c].toArray]) H
theorem SK:QK X (YK X.K):=by
 intro value slice p0 s Y H x y v u Q I rx ry h hs;rintro⟨p,xs,i,z,rfl,rfl,hq,he,q⟩:h;cases rx;rintro⟨t,rfl⟩:ry;rintro⟨its,r,pl,hz⟩:I.list hq;rintro⟨j,h1,h2,h3,h4,h5⟩:J9 he;rintro⟨w,ew,rw'⟩:r.get h2;have hl:=r.length;have hn:=D7;have fin:EP X p0 Y Q w s:=#[z,H,I,rw',q]
 by_cases h0:0<=i
 .have hj:i.toNat=j:=by
   rw[seqIndex_of h0 h5]at h1;exact Option.some.inj h1
  exact item_listR pl.isList h0 (by lia) (by rw[hj];simpa using ew) fin hs
 .have hj:(i + (its.toArray.size:Int)).toNat=j:=by
   rw[seqIndex_neg (by lia) h4]at h1;rw[size_toArray,<-hl];exact Option.some.inj h1
  exact subscriptTail_builtinR (x:=w) pl.isList.typeIs slot_list_getitem.lookup
   (wpAny_getItem_list_neg (Q:=λr s'=>r=w/\EP X p0 Y Q r s') pl.isList (by lia) (by rw[size_toArray]<;>lia) (by lia) (by rw[hj];simpa using ew) #[rfl,fin]) hs
theorem WM:QK X (YI X.K):=by
 intro value slice p0 s Y H x y v u Q I rx ry h hs;rintro⟨p,xs,i,z,rfl,rfl,hq,he,q⟩:h;cases rx;rintro⟨t,rfl⟩:ry;rintro⟨its,r,pl,hz⟩:I.tuple hq;rintro⟨j,h1,h2,h3,h4,h5⟩:J9 he;rintro⟨w,ew,rw'⟩:r.get h2;have hl:=r.length;have hn:=D7;have fin:EP X p0 Y Q w s:=#[z,H,I,rw',q]
 exact subscriptTail_builtinR (x:=w) pl.typeIs slot_tuple_getitem.lookup
  (getItem_tuple (j:=j) (Q:=λr s'=>r=w/\EP X p0 Y Q r s') pl (by lia) (by lia) (by rw[size_toArray,<-hl];exact h1) (by simpa using ew) #[rfl,fin]) hs
theorem WN:QK X YJ:=by
 intro value slice p0 s Y H x y v u Q I rx ry h hs;rintro⟨z,i,c,rfl,rfl,hz,he,q⟩:h;rintro⟨t,rfl⟩:rx;rintro⟨t',rfl⟩:ry;rintro⟨j,h1,h2,h3,h4,h5⟩:J9 he;have hl:z.cps.toList.length=z.length:=by simp[Str.length]
 rw[hl]at h1 h4 h5;have hn:=D7
 exact tail_any (typeIs_str s z t) slot_str_getitem.lookup (getItem_str (c:=c) (by
  have e1:decide (i < -(2 ^ 63:Int))=false:=dF (by lia);have e2:decide (i≥2 ^ 63)=false:=dF (by lia)
  rw[e1,e2,Bool.or_false]) (by rw[h1];simpa using h2) #[.str #[[c].toArray],H,I.tok _,#[_,rfl],q]) hs
def eu(K:Frag):R2:=λx y H Q=>YK K x y H Q\/YI K x y H Q\/YJ x y H Q
theorem WO:QK X (eu X.K):=SK.or (WM.or WN)
theorem L0(its:List Value)(n j:Nat)(u:Value):Obj.mapSeq (·.setIfInBounds j u) {cls:=.type "list",data:=.seq its.toArray n}={cls:=.type "list",data:=.seq (its.set j u).toArray n}:=by
 simp[Obj.mapSeq]
variable{p0:Oa}{H:Hp}{s:Shared}
theorem Inv.lst{Y:St}{xs:List V}(I:∅)(h:H p=some (.lst xs)):
 ∃(its:List Value) (n:Nat),Vals xs its/\s.heap.get? p=some {cls:=.type "list",data:=.seq its.toArray n}/\xs.length<=sizeLine:=by
 rintro⟨z,its,n,r,e⟩:I.Aj p _ h;exact#[its,n,r,e,z]
theorem Inv.Wy{Y:St}{xs ys:List V}{its its':List Value}{n n':Nat}{f:Obj->Obj}(I:∅)(h:H p=some (.lst xs))
 (ho:s.heap.get? p=some {cls:=.type "list",data:=.seq its.toArray n})(hf:f {cls:=.type "list",data:=.seq its.toArray n}={cls:=.type "list",data:=.seq its'.toArray n'})(r:Vals ys its')(hz:ys.length<=sizeLine)(t:Nat):
 Inv X p0 Y (upd H p (.lst ys)) {s with heap:=s.heap.update p f,toks:=t}:=by
 have e:(s.heap.update p f).get? p=some {cls:=.type "list",data:=.seq its'.toArray n'}:=by
  rw[Heap.get?_update_self f ho (by rw[hf]<;>rfl),hf]
 refine I.write (x:=p) (e:=p) (by rw[h];trivial) (.inl rfl) (λb u hb q=>(Heap.get?_update_other _ _ (Ne.symm hb)).trans q) #[_,e] ?_;exact#[hz,its',n',r,e]
def YG:V->V->V->Hp->(Hp->Prop)->Prop:=λo i v H Q=>∃p xs k j,o= .ref p/\i= .int k/\H p=some (.lst xs)/\II xs.length k=some j/\Q (upd H p (.lst (xs.set j v)))
theorem set_list:TM X YG:=by
 intro p0 s Y H o i v ov iv u Q I ro ri rv h;rintro⟨p,xs,k,j,rfl,rfl,hp,hj,q⟩:h;cases ro;rintro⟨t,rfl⟩:ri;rintro⟨its,n,r,ho,hz⟩:I.lst hp;rintro⟨h1,h2,h3,h4⟩:Mj hj;have hl:=r.length;have hn:=D7
 have I':Inv X p0 Y (upd H p (.lst (xs.set j v))) {s with heap:=s.heap.update p (Obj.mapSeq (·.setIfInBounds j u))}:=
  I.Wy hp ho (L0 its n j u) (r.set rv j) (by rw[length_set];exact hz) s.toks
 by_cases h0:0<=k
 .have hk:k.toNat=j:=by
   rw[seqIndex_of h0 h4]at h1;exact Option.some.inj h1
  exact PySem.W.ki_setAt ho h0 (by lia) (by rw[size_toArray,<-hl];exact h4) (by rw[hk];exact#[_,I',q])
 .have hk:(k + (its.toArray.size:Int)).toNat=j:=by
   rw[seqIndex_neg (by lia) h3]at h1;rw[size_toArray,<-hl];exact Option.some.inj h1
  exact PySem.W.ki_setBack ho (by lia) (by rw[size_toArray,<-hl];exact h3) (by lia) (by rw[hk];exact#[_,I',q])
theorem Iq(lo hi:Option Int)(n:Nat):(sliceBounds lo hi none n).1=((HT.BD n 0 lo:Nat):Int)/\(sliceBounds lo hi none n).2.1=((HT.BD n n hi:Nat):Int)/\(sliceBounds lo hi none n).2.2=1:=by
 refine#[?_,?_,rfl]
 .cases lo with
  |none=>simp[sliceBounds,HT.BD]
  |some i=>
    simp only[sliceBounds,HT.BD,Option.getD_none,show(1:Int) > 0 by decide,if_true]
    by_cases h:i < 0
    .simp only[h,if_true]<;>lia
    .simp only[h,if_false]<;>lia
 .cases hi with
  |none=>simp[sliceBounds,HT.BD]
  |some i=>
    simp only[sliceBounds,HT.BD,Option.getD_none,show(1:Int) > 0 by decide,if_true]
    by_cases h:i < 0
    .simp only[h,if_true]<;>lia
    .simp only[h,if_false]<;>lia
theorem H8(its:List Value)(lo hi:Option Int):slicePick its.toArray lo hi none=((its.drop (HT.BD its.length 0 lo)).take (HT.BD its.length its.length hi - HT.BD its.length 0 lo)).toArray:=by
 rintro⟨h1,h2,h3⟩:Iq lo hi its.toArray.size;unfold slicePick;rw[h1,h2,h3];simp only[sliceRange_one,pick_run,size_toArray]<;>rfl
def aK(K:Frag):V->Option Int->Option Int->Hp->VK->Prop:=λx lo hi H Q=>∃a xs,x= .ref a/\DO K H a xs/\∀p,H p=none->Q (.ref p) (upd H p (.lst (K9 xs lo hi)))
theorem RB:Xn X (aK X.K):=by
 intro p0 s Y H x v vl vu lo hi sl Q I rx hs pl pu h;rintro⟨a,xs,rfl,hx,q⟩:h;cases rx;rintro⟨its,r,ht,hz⟩:I.list hx;have hlen:=r.length;refine#["list",_,slot_list_getitem.lookup,ht.isList.typeIs,?_];refine wpAny_getItem_list_slice ht.isList hs pl pu .none (by simp) ?_ (by rw[size_toArray]<;>lia);rw[H8,<-hlen];refine#[.ref s.heap.objs.size,_,I.laid (t':=s.toks) (o:=.lst (K9 xs lo hi)) (λb ob q=>gP q) (Nat.le_refl _) ?_,rfl,q _ (I.Aj.fresh (Nat.le_refl _))];exact#[Nat.le_trans (Fy xs lo hi) hz,_,0,(r.drop (HT.BD xs.length 0 lo)).take (HT.BD xs.length xs.length hi-HT.BD xs.length 0 lo),Heap.get?_push_size _ rfl]
theorem J3:Dh X (.builtin "len") (λxs H Q=>∃p ys,xs=[.ref p]/\(DO X.K H p ys\/D1 X.K H p ys)/\Q (.int ys.length) H):=by
 intro p0 s Y H xs us Q I r h;rintro⟨p,ys,rfl,hq,q⟩:h;rintro⟨u,rfl,rx⟩:vals1 r;cases rx;have hn:=D7;rcases hq with hq|hq
 .obtain⟨its,r',pl,hz⟩:=I.list hq;have hlen:=r'.length;exact Calls.call_len_list pl.isList (by simp only[size_toArray]<;>lia) #[.int ys.length,H,I.tok _,#[s.toks+1,by rw[size_toArray,hlen]],q]
 .obtain⟨its,r',pl,hz⟩:=I.tuple hq;have hlen:=r'.length;exact len_tuple pl (by simp only[size_toArray]<;>lia) #[.int ys.length,H,I.tok _,#[s.toks+1,by rw[size_toArray,hlen]],q]
theorem J2:Dh X (.builtin "len") (λxs H Q=>∃z,xs=[.str z]/\z.length<=sizeLine/\Q (.int z.length) H):=by
 intro p0 s Y H xs us Q I r h;rintro⟨z,rfl,hz,q⟩:h;rintro⟨u,rfl,t,rfl⟩:vals1 r;have hn:=D7;exact len_str (by lia) #[.int z.length,H,I.tok _,#[_,rfl],q]
theorem J1:Dh X (.type "list") (λxs H Q=>∃p ys,xs=[.ref p]/\(DO X.K H p ys\/D1 X.K H p ys)/\∀l,H l=none->Q (.ref l) (upd H l (.lst ys))):=by
 intro p0 s Y H xs us Q I r h;rintro⟨p,ys,rfl,hq,q⟩:h;rintro⟨u,rfl,rx⟩:vals1 r;cases rx
 have fin:∀(its:List Value),Vals ys its->ys.length<=sizeLine->∀(h':Heap) (c':Nat),(∀b o',s.heap.get? b=some o'->h'.get? b=some o')->
  h'.get? s.heap.objs.size=some {cls:=.type "list",dict:=none,data:=.seq its.toArray c',slots:=[].toArray}->EP X p0 Y Q (.ref s.heap.objs.size) {s with heap:=h'}:=λits r' hz h' c' kp e=>
  #[.ref s.heap.objs.size,_,I.laid (t':=s.toks) kp (Nat.le_refl _) (show Br X.prog X.w _ h' _ (.lst ys)from#[hz,its,c',r',e]),rfl,q _ (I.Aj.fresh (Nat.le_refl _))]
 rcases hq with hq|hq
 .obtain⟨its,r',pl,hz⟩:=I.list hq;have hlen:=r'.length;rintro⟨o,ho,hc,n,hd⟩:pl.isList;exact call_list_seq p (.inl rfl) ho hc hd (λh' c' kp e=>fin its r' hz h' c' kp e) (by simp only[size_toArray]<;>lia)
 .obtain⟨its,r',pl,hz⟩:=I.tuple hq;have hlen:=r'.length;rintro⟨o,ho,hc,n,hd⟩:pl;exact call_list_seq p (.inr rfl) ho hc hd (λh' c' kp e=>fin its r' hz h' c' kp e) (by simp only[size_toArray]<;>lia)
theorem Hi:Dh X (.type "tuple") (λxs H Q=>∃p ys,xs=[.ref p]/\((DO X.K H p ys/\∀l,H l=none->Q (.ref l) (upd H l (.tup ys)))\/(D1 X.K H p ys/\Q (.ref p) H))):=by
 intro p0 s Y H xs us Q I r h;rintro⟨p,ys,rfl,h⟩:h;rintro⟨u,rfl,rx⟩:vals1 r;cases rx;rcases h with⟨hq,q⟩|⟨hq,q⟩
 .obtain⟨its,r',pl,hz⟩:=I.list hq;have hlen:=r'.length;refine call_tuple_list pl.isList (λh' kp=>?_) (by simp only[size_toArray]<;>lia);have I1:Inv X p0 Y H {s with heap:=h'}:=I.kept (t':=s.toks) kp
  have I2:Inv X p0 Y (upd H h'.objs.size (.tup ys)) {s with heap:=h'.push {cls:=.type "tuple",data:=.seq its.toArray}}:=
   I1.laid (t':=s.toks) (λb o e=>gP e) (Nat.le_refl _) (show Br X.prog X.w _ _ _ (.tup ys)from#[hz,its,r',IsTup.new _ _])
  exact#[.ref h'.objs.size,_,I2,rfl,q _ (I1.Aj.fresh (Nat.le_refl _))]
 .obtain⟨its,r',pl,hz⟩:=I.tuple hq;exact call_tuple_same pl #[.ref p,H,I,rfl,q]
def az(K:Frag)(T:String)(x:V)(H:Hp):Prop:=match x with
 |.str _=>T="str"
 |.int _=>T="int"
 | .ref p=>(T="list"/\∃xs,DO K H p xs)\/(T="tuple"/\∃o,K.lookup p=some o/\o.cls= .type "tuple"/\o.dict=none)\/
  (T="dict"/\((∃kvs,H p=some (.dK kvs))\/∃kvs,H p=some (.dT kvs)))\/(T="set"/\∃S n,H p=some (.set S n))
 |_=>False
theorem Kt{Y:St}{T:String}(I:∅)(r:RelV x v)(ty:az X.K T x H):
 s.TypeIs v T/\∀a,v= .ref a->∃ob,s.heap.get? a=some ob/\ob.dict=none:=by
 cases x with
 |str z=>
   rintro⟨t,rfl⟩:r;cases (show T="str" from ty);exact#[typeIs_str s z t,λ_ e=>nomatch e]
 |int i=>
   rintro⟨t,rfl⟩:r;cases (show T="int" from ty);exact#[typeIs_int s i t,λ_ e=>nomatch e]
 |ref p =>
   cases r;rcases ty with⟨rfl,xs,hq⟩|⟨rfl,o,hk,hc,hd⟩|⟨rfl,hk⟩|⟨rfl,S,n,hk⟩
   .obtain⟨its,_,pl,_⟩:=I.list hq;refine#[pl.isList.typeIs,λa e=>?_];cases e;rintro⟨o,n,e,c,hd,_⟩:pl;exact#[o,e,hd]
   .refine#[#[o,I.Gz p o hk,hc],λa e=>?_];cases e;exact#[o,I.Gz _ o hk,hd]
   .have z:∃o,s.heap.get? p=some o/\o.ExactDict:=by
     rcases hk with⟨kvs,hk⟩|⟨kvs,hk⟩
     .obtain⟨_,_,_,_,o,_,_,e,ex,_⟩:=I.Aj p _ hk;exact#[o,e,ex]
     .obtain⟨_,_,_,_,o,_,_,e,ex,_⟩:=I.Aj p _ hk;exact#[o,e,ex]
    rintro⟨o,e,ex⟩:z;refine#[#[o,e,ex.1],λa e2=>?_];cases e2;exact#[o,e,ex.2.1]
   .obtain⟨o,_,_,_,e,ex,_⟩:=I.Aj p _ hk;refine#[#[o,e,ex.1],λa e2=>?_];cases e2;exact#[o,e,ex.2.1]
 |_=>exact False.elim ty
def Vf(K:Frag)(T:String)(r:V->List V->Hp->VK->Prop)(to:TE):TE:=λY H Q=>to Y H λx H1=>az K T x H1/\r x [] H1 Q
def cQ(K:Frag)(T:String)(r:V->List V->Hp->VK->Prop)(to:TE)(t:TA):TE:=λY H Q=>to Y H λx H1=>az K T x H1/\t Y H1 λxs H2=>r x xs H2 Q
variable{o e:Expr}{es:List Expr}{to:TE}{t:TA}{name:Str}{apos cpos:Pos}{T id:String}{r:V->List V->Hp->VK->Prop}
theorem KP(pa:PlainAttrs T)(slot:Slot T name id)(hty:typeOf (.builtin id)=pure (.type "method_descriptor"))(hm:Xp X id r)(ho:PE X o to)
 (hbase:attributeBase o name X.env (eval o X.env)=eval o X.env:=by rfl)(hline:(apos.endLine == cpos.line)=true:=by rfl):PE X (.Call (.Attribute o name apos) [] [] cpos) (Vf X.K T r to):=by
 intro p0 s Y H Q I h;refine wpAny_Call_method0_late hbase hline (AS (ho p0 s Y H _ I h) λv s1 ⟨x,H1,I1,r1,ty,q1⟩=>?_);rintro⟨h1,h2⟩:Kt I1 r1 ty;exact#[T,id,pa,slot,hty,h1,h2,Calls.callWith_builtin rfl (PySem.evalArgs_none (hm p0 s1 Y H1 x [] v [] Q I1 r1 .nil q1))]
theorem Up(pa:PlainAttrs T)(slot:Slot T name id)(hty:typeOf (.builtin id)=pure (.type "method_descriptor"))(hm:Xp X id r)(ho:PE X o to)(ha:PA X (e::es) t)
 (hbase:attributeBase o name X.env (eval o X.env)=eval o X.env:=by rfl)
 (hfew:((backTo cpos (starEach (e::es) X.env)).all (λx=>!x.1) && (backToKw cpos (keywordEach [] X.env)).all (λx=>x.1.isSome)
  && decide ((e::es).length+([]:List Keyword).length+(if([]:List Keyword).isEmpty then 0 else 1) < 30))=true:=by rfl)
 (hline:(apos.endLine == cpos.line)=true:=by rfl)(hs:starEach (e::es) X.env=(false,eval e X.env)::starEach es X.env:=by rfl)(hplain:(backTo cpos (starEach es X.env)).any (·.1)=false:=by rfl):
 PE X (.Call (.Attribute o name apos) (e::es) [] cpos) (cQ X.K T r to t):=by
 intro p0 s Y H Q I h;refine wpAny_Call_method_late hbase hfew hline rfl (AS (ho p0 s Y H _ I h) λv s1 ⟨x,H1,I1,r1,ty,q1⟩=>?_);rintro⟨h1,h2⟩:Kt I1 r1 ty;refine#[T,id,pa,slot,hty,h1,h2,?_];have hA:=ha cpos p0 s1 Y H1 _ I1 q1;rw[hs]at hA ⊢;refine Calls.callWith_builtin (by show(false || (backTo cpos (starEach es X.env)).any (·.1))=false;rw[hplain]<;>rfl) (Calls.evalArgs_plain ?_);exact AS hA λus s2 ⟨vs,H2,I2,r2,q2⟩=>hm p0 s2 Y H2 x vs v us Q I2 r1 r2 q2
end
def cn(X:Cx)(id:String)(r:V->List V->Hp->VK->Prop):Prop:=
 ∀ (p0:Oa) (s:Shared) (Y:St) (H:Hp) (x:V) (xs:List V) (v:Value) (us:List Value) (Q:VK),∅->RelV x v->Vals xs us->r x xs H Q->
   (X|||(call (.builtin id) (v::us))) (EP X p0 Y Q) X.xe s
theorem Vals.one:∀{x:V} {us:List Value},Vals [x] us->∃u,us=[u]/\RelV x u
 |_,_,.cons r .nil=>#[_,rfl,r]
theorem Vals.two:∀{x y:V} {us:List Value},Vals [x,y] us->∃u v,us=[u,v]/\RelV x u/\RelV y v
 |_,_,_,.cons r (.cons q .nil)=>#[_,_,rfl,r,q]
theorem Vals.zero:∀{us:List Value},Vals [] us->us=[]
 |_,.nil=>rfl
variable{us:List Value}
theorem Vals.dropLast{xs:List V}(h:Vals xs us):Vals xs.dropLast us.dropLast:=by
 induction h with
 |nil=>exact .nil
 |cons r t ih=>
   cases t with
   |nil=>exact .nil
   |cons q t'=>exact .cons r ih
theorem Vals.reverse{xs:List V}(h:Vals xs us):Vals xs.reverse us.reverse:=by
 induction h with
 |nil=>exact .nil
 |cons r t ih=>rw[reverse_cons,reverse_cons];exact Vals.append ih (.cons r .nil)
theorem Lq(l:List α):l.eraseIdx (l.length - 1)=l.dropLast:=by
 induction l with
 |nil=>rfl
 |cons a r ih=>
   cases r with
   |nil=>rfl
   |cons b r=>
     have e:(a::b::r).length - 1=((b::r).length - 1) + 1:=by
      have h1:(a::b::r).length=r.length+2:=rfl;have h2:(b::r).length=r.length+1:=rfl
      lia
     rw[e,List.eraseIdx_cons_succ,ih]
     all_goals rfl
variable{X:Cx}{p0:Oa}{Y:St}{H:Hp}{s:Shared}{l b:Addr}{xs ys zs:List V}
variable{its:List Value}{t':Nat}
theorem Inv.Pl{its':List Value}{n:Nat}{f:Array Value->Array Value}(I:∅)(hH:H l=some (.lst xs))
 (e:s.heap.get? l=some {cls:=.type "list",data:=.seq its.toArray n})(hf:f its.toArray=its'.toArray)(hv:Vals ys its')(hz:ys.length<=sizeLine):
 Inv X p0 Y (upd H l (.lst ys)) {s with heap:=s.heap.update l (Obj.mapSeq f),toks:=t'}:=by
 have q:=PySem.IsL.update e f;rw[hf]at q;refine I.write (x:=l) (e:=l) (by rw[hH];exact trivial) (.inl rfl) (λb' u hb hu=>(Heap.get?_update_other s.heap (Obj.mapSeq f) (Ne.symm hb)).trans hu) #[_,q] ?_;exact#[hz,its',_,hv,q]
theorem Inv.bw(I:∅)(hv:Vals ys its)(hz:ys.length<=sizeLine):
 Inv X p0 Y (upd H s.heap.objs.size (.lst ys)) {s with heap:=s.heap.push {cls:=.type "list",data:=.seq its.toArray},toks:=t'}:=
 I.laid (λ_ _ q=>gP q) (Nat.le_refl _) #[hz,its,0,hv,Heap.get?_push_size _ rfl]
theorem Inv.fresh(I:∅):H s.heap.objs.size=none:=I.Aj.fresh (Nat.le_refl _)
theorem Inv.Pj(I:∅)(hH:H l=some (.lst xs)):xs.length<=sizeLine/\∃(its:List Value) (n:Nat),Vals xs its/\xs.length=its.length/\s.heap.get? l=some {cls:=.type "list",data:=.seq its.toArray n}:=by
 rintro⟨z,its,n,r,e⟩:I.Aj l _ hH;exact#[z,its,n,r,r.length,e]
theorem Inv.Wz(I:∅)(hH:Rd H l (.lst xs)):xs.length<=sizeLine/\∃(its:List Value) (n:Nat),Vals xs its/\xs.length=its.length/\s.heap.get? l=some {cls:=.type "list",data:=.seq its.toArray n}:=by
 rintro⟨z,its,n,r,e⟩:hH.ok I.Aj;exact#[z,its,n,r,r.length,e]
theorem JJ{n:Nat}(h:n<=sizeLine):Builtin.List.listTooLong n=false:=by
 unfold Builtin.List.listTooLong;exact dF (by lia)
def M5:V->List V->Hp->VK->Prop:=λx vs H Q=>∃l xs y,x= .ref l/\vs=[y]/\H l=some (.lst xs)/\xs.length < sizeLine/\Q .AG (upd H l (.lst (xs++[y])))
theorem N8:cn X "list.append" M5:=by
 intro p0 s Y H x vs v us Q I rx rv h;rintro⟨l,xs,y,rfl,rfl,hH,hz,q⟩:h;cases rx;rintro⟨u,rfl,ru⟩:rv.one;rintro⟨z,its,n,r,hl,e⟩:I.Pj hH;refine call_meets F.slot_list_append #[_,e,rfl] F.entry_list_append (F.args_list_append_2 _ _) (PySem.list_append l its.toArray n u (by rw[size_toArray];lia)) #[e,?_];refine#[.AG,_,I.Pl (its':=its++[u]) hH e (by simp) (r.append (.cons ru .nil)) ?_,rfl,q];rw[lA,lS]
 lia
def Iu:V->List V->Hp->VK->Prop:=λx vs H Q=>∃l b xs zs,x= .ref l/\vs=[.ref b]/\H l=some (.lst xs)/\Rd H b (.lst zs)/\xs.length+zs.length<=sizeLine/\Q .AG (upd H l (.lst (xs++zs)))
theorem N7:cn X "list.extend" Iu:=by
 intro p0 s Y H x vs v us Q I rx rv h;rintro⟨l,b,xs,zs,rfl,rfl,hH,hB,hz,q⟩:h;cases rx;rintro⟨u,rfl,ru⟩:rv.one;cases ru;rintro⟨z,its,n,r,hl,e⟩:I.Pj hH;rintro⟨z2,its2,n2,r2,hl2,e2⟩:I.Wz hB;have hsz:its.toArray.size+its2.toArray.size<=sizeLine:=by rw[size_toArray,size_toArray];lia
 have hlong:¬(!its.toArray.isEmpty && Builtin.List.listTooLong (its.toArray.size + its2.toArray.size))=true:=by
  rw[JJ hsz,Bool.and_false];exact Bool.false_ne_true
 refine call_meets F.slot_list_extend #[_,e,rfl] F.entry_list_extend (F.args_list_extend_2 _ _)
  (AutoSeq1.list_extend_list_list_0 l its.toArray n b its2.toArray n2 hlong (by rw[size_toArray];lia) (by lia)) #[e,e2,?_]
 refine#[.AG,_,I.Pl (its':=its++its2) hH e (by simp) (r.append r2) ?_,rfl,q];rw[lA]
 lia
def VG:V->List V->Hp->VK->Prop:=λx vs H Q=>∃l xs y,x= .ref l/\vs=[]/\H l=some (.lst xs)/\xs[xs.length-1]? =some y/\Q y (upd H l (.lst xs.dropLast))
theorem P6:cn X "list.pop" VG:=by
 intro p0 s Y H x vs v us Q I rx rv h;rintro⟨l,xs,y,rfl,rfl,hH,hy,q⟩:h;cases rx;have hus:=rv.zero;subst hus;rintro⟨z,its,n,r,hl,e⟩:I.Pj hH;rintro⟨u,hu,ru⟩:r.get hy
 have hy':its.toArray[its.toArray.size - 1]? =some u:=by
  show its.toArray[its.length-1]? =some u;rw[<-Array.getElem?_toList,<-hl];exact hu
 refine call_meets F.slot_list_pop #[_,e,rfl] F.entry_list_pop (F.args_list_pop_1 _) (MeetsSeq.list_pop_last l its.toArray n u hy' (by rw[size_toArray];lia)) #[e,?_];refine#[y,_,I.Pl (its':=its.dropLast) hH e ?_ r.dropLast ?_,ru,q]
 .show its.toArray.eraseIdxIfInBounds (its.toArray.size-1)=its.dropLast.toArray;rw[size_toArray,List.eraseIdxIfInBounds_toArray,Lq]
 .rw[List.length_dropLast]
  lia
def aR:R2:=λx y H Q=>∃l b xs zs,x= .ref l/\y= .ref b/\Rd H l (.lst xs)/\Rd H b (.lst zs)/\xs.length+zs.length<=sizeLine/\∀p,H p=none->Q (.ref p) (upd H p (.lst (xs++zs)))
theorem We:BG X (binaryOp .Add) aR:=by
 intro p0 s Y H x y v u Q I rx ry h;rintro⟨l,b,xs,zs,rfl,rfl,hH,hB,hz,q⟩:h;cases rx;cases ry;rintro⟨z,its,n,r,hl,e⟩:I.Wz hH;rintro⟨z2,its2,n2,r2,hl2,e2⟩:I.Wz hB;refine PySem.P.add_list e e2 ?_ (by rw[size_toArray,size_toArray];lia);have ea:its.toArray++its2.toArray=(its++its2).toArray:=by simp
 rw[ea];exact#[.ref _,_,I.bw (t':=s.toks) (r.append r2) (by rw[lA];lia),rfl,q _ I.fresh]
variable{a:Addr}{y v:V}{u r:Value}{o:Option V}{A:Around}{E:Va}
theorem Inv.big(I:∅):sysModules < s.heap.objs.size:=by
 have h:mainGlobals < s.heap.objs.size:=(I.mod.glob.keeps I.bk).lt;exact Nat.lt_trans (by decide) h
theorem Te{h':Heap}{ob:HO}(I:∅)(mu:ZO (H a))(hs:Heap.SameBut a s.heap h')(he:∃q,h'.get? a=some q)(new:Br X.prog X.w (upd H a ob) h' a ob):
 Inv X p0 Y (upd H a ob) {s with heap:=h',toks:=t'}:=
 I.write (x:=a) (e:=a) mu (.inl rfl) (λb q hb z=>(hs.2 b hb).trans z) he new
variable{pos:Pos}
variable{d:V}
variable{kvs:List (Key×V)}
end L2
namespace Att
open PySem PySem.W PySem.Calls PyProof.Rows
variable{h:Heap}
theorem FJ{P:Params}:∀(ns:List Int) (vs:List Value),WellAll P h vs (ns.map WData.int)->IntsAre vs ns:=by
 intro ns
 induction ns with
 |nil=>
   intro vs w;rw[map_nil]at w;cases w;exact .nil
 |cons n ns ih=>
   intro vs w;rw[map_cons]at w;cases w with
   |cons a b=>
     cases a;exact .cons _ _ (ih _ b)
theorem MW{l:OpenLaw}{n:Nat}(hn:l.most=some n){P:Params}{args:List WData}{vals:List Value}
 (hpre:l.row.toRowW.claim.pre args=true)(hwl:WellAll P h vals args):
 ∃a vs ns,vals=[Value.ref a]/\args=[WData.list (ns.map WData.int)]/\h.get? a=some {cls:=.type "list",data:=.seq vs.toArray}/\IntsAre vs ns/\ns.length<=n:=by
 have hsh:WShape.hasAll [] args [.list .int]=true:=(pre_splitW hpre).1;have hc:l.pre.holds [] {args:=args}=true:=(pre_splitW hpre).2;rintro⟨d,r,rfl,h1,h2⟩:hasAllW_cons hsh;obtain rfl:=hasAllW_nil h2;rintro⟨xs,rfl,h3⟩:hasW_list h1;rintro⟨ns,rfl⟩:items_int h3
 have hlen:ns.length<=n:=by
  unfold OpenLaw.pre at hc
  have h4:(WTm.not (.lt (.lit (.int (n:Int))) (.len (.arg 0)))).holds [] {args:=[.list (ns.map .int)]}=true:=by
   have h4:=(holds_andW hc).1;rw[hn]at h4;exact h4
  have h5:=condW_of h4 (w_not (w_lt w_lit (w_len_list (w_arg rfl))));rw[lM]at h5;refine Nat.le_of_not_lt λq=>?_
  have q':(n:Int) < ((ns.length:Nat):Int):=by lia
  first
   |(rw[dZ q']at h5;exact absurd h5 (by decide))
   |(simp at h5;lia)
 cases hwl with
 |cons w1 w2=>
   cases w2;cases w1 with
   |list ho hall=>exact#[_,_,ns,rfl,rfl,ho,FJ ns _ hall,hlen]
theorem N1(l:OpenLaw)(args:List WData):l.row.toRowW.claim.post args (.bool true) args=true:=
 postW_of (r:=l.row.toRowW) (X:=(true == true))
  (show WShape.has [] (.bool true) .bool=true by first|rfl|decide|simp[WShape.has,WShape.arms,WShape.armsAll])
  (show(WTm.eq .res (.lit (.bool true))).value [] {args:=args,res:=some (.bool true),after:=args}=some (.bool (true == true))from w_eq_bool (w_res rfl) w_lit) rfl
theorem Kl{l:OpenLaw}{n:Nat}{q:Program}{loose:List Str}{XP:(Str->Option Value)->Heap->Prop}{YP:World->Heap->Prop}{d:DefRec}
 (hn:l.most=some n)(hdf:d.params.defaults=[])
 (call:∀(w:World) (s₀ s₁:Shared) (mg mb:Str->Option Value) (fa:Addr) (o:Obj) (pm cd doc:Value) (a:Addr) (vs:List Value) (ns:List Int),
  Ground q loose [] XP w s₀ mg mb s₁.heap->YP w s₁.heap->
  s₁.heap.get? fa=some o->o.data= .func (docDef d.name d.params d.body d.scope pm cd doc)->s₁.heap.CodeRec cd d.name->mg d.name=some (.ref fa)->
  s₁.heap.get? a=some {cls:=.type "list",data:=.seq vs.toArray}->IntsAre vs ns->ns.length<=n->s₁.gens= [].toArray->
  codeAny (model l.prog w) callerA (.call (.ref fa) #[[.ref a],[]]) (λr s'=>r= .ok (.ret (.bool true))/\OldK s₁.heap s'.heap/\s'.os=s₁.os/\AllBare s'.gens) s₁):
 WalkO q loose XP YP l.row.toRowW d [] (λf vs=>PySem.call f vs):=by
 intro w s₀ s₁ mg mb G xYY fa o pm cd doc dV kV ho hd hcd hD hmg hg args vals as hpre hlay hrd hwl hlo;obtain rfl:dV= .none:=Dflts.none hD hdf;obtain rfl:kV= .none:=Dflts.noKw hD;rintro⟨a,vs,ns,rfl,rfl,hobj,hints,hlen⟩:MW hn hpre hwl;refine enter_call (codeAny_mono (call w s₀ s₁ mg mb fa o pm cd doc a vs ns G xYY ho (fd_plain hd) hcd hmg hobj hints hlen hg) λr s' hq=>?_);rintro⟨rfl,h2,h3,h4⟩:hq;exact#[.inl #[.bool true,.bool true,[],rfl,λ_=>rfl,.bool true,N1 l _,λ_=>#[List.Pairwise.nil,λ_ hm=>(nomatch hm)]],h2,h3,h4]
end Att
namespace L2
open PySem PySem.Spec PyProof.Rows
theorem Hn:∀{vs:List Value} {ns:List Int},IntsAre vs ns->Vals (ns.map V.int) vs
 |_,_,.nil=>.nil
 |_,_,.cons n t h=>.cons #[t,rfl] (Hn h)
def inClass(s:Stmt)(j:Nat):Stmt:=match s with
 |.ClassDef _ _ _ body _ _ _ _ _ _ _=>body.getD j (.Pass #[0,0,0,0])
 |_=>.Pass #[0,0,0,0]
def J0(s:Stmt):Arguments:=match s with
 |.FunctionDef _ a _ _ _ _ _ _ _ _=>a
 |_=>{posonlyargs:=[],args:=[],vararg:=none,kwonlyargs:=[],kw_defaults:=[],kwarg:=none,defaults:=[]}
def DM(s:Stmt):List Stmt:=match s with
 |.FunctionDef _ _ b _ _ _ _ _ _ _=>b
 |_=>[]
def Bp(s:Stmt):Scope:=match s with
 |.FunctionDef _ _ _ _ _ _ sc _ _ _=>sc
 |_=>{kind:=.function,names:=[],isGenerator:=false,isCoroutine:=false}
abbrev MI:Xs:=λ_ _ _ _ _ _=>False
abbrev E0:XK:=λ_ _ _=>False
structure TQ(K:Frag)(x qual:Str)(st:Stmt)(f:Addr)(fd:FuncData):Prop where
 ex:∃(oc:Value) (od:Option Addr) (kV doc pm:Value) (an:Option Addr) (cdv ct:Value) (osl:Array (Option Value)),
   fd=fnOf x qual (J0 st) (DM st) (Bp st) .none kV doc pm an cdv ct/\K.lookup f=some #[oc,od,.func fd,osl]/\codeIn K cdv qual=true
 kp:keepIn K (.ref f)=true
section
variable{P:Program}{w:World}{K:Frag}{mg:Str->Option Value}{base:Heap}
theorem TQ.binds{qual:Str}{st:Stmt}{fd:FuncData}{ps:List Str}(F:TQ K x qual st f fd)
 (h:∀(kV doc pm:Value) (an:Option Addr) (cdv ct:Value) (us:List Value),us.length=ps.length->bindArgs (fnOf x qual (J0 st) (DM st) (Bp st) .none kV doc pm an cdv ct) #[us,[]]=pure (ps.zip us)):Binds K fd ps []:=by
 rintro⟨oc,od,kV,doc,pm,an,cdv,ct,osl,rfl,lk,hcd⟩:F.ex;exact .all (h kV doc pm an cdv ct)
end
variable{X:Cx}
def Dc(H H':Hp):Prop:=∀b o,H b=some o->H' b=some o
theorem Dc.refl(H:Hp):Dc H H:=λ_ _ h=>h
theorem Dc.trans{H H1 H2:Hp}(a:Dc H H1)(b:Dc H1 H2):Dc H H2:=λc o h=>b c o (a c o h)
def GR(cells:List (Str×Addr)):List (Str×NameKind)->List (Str×Addr)->List (Str×Addr)
 |[],cs=>cs
 |(n,k)::r,cs=>if(k == NameKind.free)=true then GR cells r ((n,(cells.lookup n).getD 0)::cs)else GR cells r cs
variable{env:Env}
theorem Mu:∀(l:List (Str×NameKind)) (cs:List (Str×Addr)),(∀x∈l,x.2= .free->∃c,env.cells.lookup x.1=some c)->
 (forIn l cs (λ(x:Str×NameKind) (r:List (Str×Addr))=>(match x with|(name,kind)=>if(kind == NameKind.free)=true then(do let a <-cellOf env name;pure (ForInStep.yield ((name,a)::r)))else pure (ForInStep.yield r):Sem _)))=(pure (GR env.cells l cs):Sem _)
 |[],cs,_=>by simp[GR]
 | (n, k)::r,cs,h=>by
   have ih:=λcs'=>Mu r cs' λx hx=>h x (mem_cons_of_mem _ hx)
   rw[forIn_cons]
   by_cases hk:k= .free
   .subst hk;rintro⟨c,e⟩:h (n,.free) mS rfl
    have hb:(if(NameKind.free == NameKind.free)=true then(do let a <-cellOf env n;pure (ForInStep.yield ((n,a)::cs)))else pure (ForInStep.yield cs):Sem (ForInStep (List (Str×Addr))))=pure (ForInStep.yield ((n,c)::cs)):=by
     have e:env.cells.lookup n=some c:=e;rw[iP (by rfl)];unfold cellOf;rw[e];exact pure_bind _ _
    show((if(NameKind.free == NameKind.free)=true then(do let a <-cellOf env n;pure (ForInStep.yield ((n,a)::cs)))else pure (ForInStep.yield cs):Sem (ForInStep (List (Str×Addr)))) >>= _)=_;rw[hb,pure_bind];refine(ih _).trans ?_;have e:env.cells.lookup n=some c:=e;show _=pure (if(NameKind.free == NameKind.free)=true then GR env.cells r ((n,(env.cells.lookup n).getD 0)::cs)else GR env.cells r cs);rw[iP (by rfl),e];rfl
   .have hb:(k == NameKind.free)=false:=by simpa using hk
    show((if(k == NameKind.free)=true then(do let a <-cellOf env n;pure (ForInStep.yield ((n,a)::cs)))else pure (ForInStep.yield cs):Sem (ForInStep (List (Str×Addr)))) >>= _)=_;rw[iN (by rw[hb];decide),pure_bind];refine(ih _).trans ?_;show _=pure (if(k == NameKind.free)=true then GR env.cells r ((n,(env.cells.lookup n).getD 0)::cs)else GR env.cells r cs);rw[iN (by rw[hb];decide)]
theorem Cr{scope:Scope}(h:∀x∈scope.names,x.2= .free->∃c,env.cells.lookup x.1=some c):closureFor scope env=pure (GR env.cells scope.names []):=by
 unfold closureFor;have:=Mu (env:=env) scope.names [] h
 first
  |(simp only[bind_pure];exact this)
  |(rw[show(forIn scope.names ([]:List (Str×Addr)) _:Sem _)=_ from this];rfl)
theorem EC{cells:List (Str×Addr)}{c:Addr}:∀(l:List (Str×NameKind)) (cs:List (Str×Addr)),(∀y∈l,y.2= .free->∃c,cells.lookup y.1=some c)->(∀y d,cs.lookup y=some d->cells.lookup y=some d)->
 (GR cells l cs).lookup x=some c->cells.lookup x=some c
 |[],cs,_,hc,e=>hc x c e
 | (n, k)::r,cs,hl,hc,e=>by
   have hl':∀y∈r,y.2= .free->∃c,cells.lookup y.1=some c:=λy hy=>hl y (mem_cons_of_mem _ hy)
   unfold GR at e
   by_cases hk:(k == NameKind.free)=true
   .rw[iP hk]at e;refine EC r _ hl' (λy d q=>?_) e;rintro⟨d',e'⟩:hl (n,k) mS (by simpa using hk);rw[lookup_cons]at q;cases hy:y == n with
    |true=>
      rw[hy]at q;have:y=n:=by simpa using hy
      subst this;dsimp only at e';rw[e']at q ⊢;exact q
    |false=>rw[hy]at q;exact hc y d q
   .rw[iN hk]at e;exact EC r cs hl' hc e
theorem DN{cells:List (Str×Addr)}{x:Str}:∀(l:List (Str×NameKind)) (cs:List (Str×Addr)),((∃y∈l,y.1=x/\y.2= .free)\/∃c,cs.lookup x=some c)->∃c,(GR cells l cs).lookup x=some c
 | [],cs,h=>by
   rcases h with⟨y,hy,_⟩|h
   .simp at hy
   .exact h
 | (n, k)::r,cs,h=>by
   unfold GR
   by_cases hk:(k == NameKind.free)=true
   .rw [iP hk];refine DN r _ ?_;rcases h with⟨y,hy,e1,e2⟩|⟨c,h⟩
    .rcases mem_cons.mp hy with q|q
     .refine .inr ?_;subst q;have e1:n=x:=e1;subst e1;exact#[_,by rw[lookup_cons];simp;rfl]
     .exact .inl #[y,q,e1,e2]
    .refine .inr ?_;rw[lookup_cons];cases hy:x == n with
     |true=>exact#[_,rfl]
     |false=>exact#[c,h]
   .rw [iN hk];refine DN r cs ?_;rcases h with⟨y,hy,e1,e2⟩|h
    .rcases mem_cons.mp hy with q|q
     .subst q;have e2:k= .free:=e2;subst e2;exact absurd rfl hk
     .exact .inl #[y,q,e1,e2]
    .exact .inr h
noncomputable def AQ(X:Cx)(N:List Str)(scope:Scope)(C:Addr)(s:Shared)(H:Hp)(fp:List Addr):Cx where
 prog:=X.prog
 w:=X.w
 K:=X.K
 mg:=X.mg
 base:=X.base
 A:=X.A
 N:=N
 s₀:=s
 H₀:=H
 env:=compEnvC scope (GR X.env.cells scope.names []) C X.env
 outer:=X.stack
 stack:=X.stack
 ex:=fp
 calm:=X.calm
 fn:=λ_=>false
 pn:=[]
 xe:=λ_ _=>False
def Dz(fr:List (Option Nat))(Y:St):St:=fr.map λo=>o.bind λi=>(Y[i]?).join
noncomputable def LB(N0:List Str)(sc0:Scope)(N:List Str)(scope:Scope)(fr:List (Option Nat)):Bool:=
 (scope.kind == .function) && scope.names.all (λy=>y.2 != .cell) && scope.names.all (λy=>y.2 != .local || scope.names.lookup y.1 == some .local) &&
 scope.names.all (λy=>y.2 != .free || sc0.names.lookup y.1 == some .cell || sc0.names.lookup y.1 == some .free) && (fr.length == N.length) &&
 (List.range fr.length).all λj=>match fr[j]? with
  |some (some i)=>(N[j]? == N0[i]?) && (match N[j]? with|some x=>scope.names.lookup x == some .free|none=>false)
  |_=>true
structure De(N0:List Str)(sc0:Scope)(N:List Str)(scope:Scope)(fr:List (Option Nat)):Prop where
 kind:scope.kind= .function
 CI:∀y∈scope.names,y.2≠.cell
 own:∀y∈scope.names,y.2= .local->scope.names.lookup y.1=some .local
 free:∀y∈scope.names,y.2= .free->sc0.names.lookup y.1=some .cell\/sc0.names.lookup y.1=some .free
 len:fr.length=N.length
 EZ:∀(j i:Nat),fr[j]? =some (some i)->∃x,N[j]? =some x/\N0[i]? =some x/\scope.names.lookup x=some .free
theorem De.of{N0:List Str}{sc0:Scope}{N:List Str}{scope:Scope}{fr:List (Option Nat)}(h:LB N0 sc0 N scope fr=true):De N0 sc0 N scope fr:=by
 unfold LB at h;simp only[bA,all_eq_true]at h;rintro⟨⟨⟨⟨⟨h1,h2⟩,h3⟩,h4⟩,h5⟩,h6⟩:h;refine#[by simpa using h1,λy hy=>by simpa using h2 y hy,λy hy e=>?_,λy hy e=>?_,by simpa using h5,λj i e=>?_]
 .have:=h3 y hy;simp[e]at this;exact this
 .have:=h4 y hy;simp[e]at this;exact this
 .have hj:j < fr.length:=(List.getElem?_eq_some_iff.mp e).1;have q:=h6 j (mem_range.mpr hj);rw[e]at q;dsimp only at q;rw[bA]at q;rintro⟨q1,q2⟩:q;cases ex:N[j]? with
  |none=>rw[ex]at q2;cases q2
  |some x=>
    rw[ex]at q1 q2;exact#[x,rfl,(by simpa using q1:some x=N0[i]?).symm,by simpa using q2]
theorem BJ{env:Env}:∀{names:List (Str×NameKind)} {x:Str},names.lookup x=some .free->
 (names.map λ(n,k)=>if(k^^^n&&&env)then(n,NameKind.cell)else(n,k)).lookup x=some .free\/
 (names.map λ(n,k)=>if(k^^^n&&&env)then(n,NameKind.cell)else(n,k)).lookup x=some .cell
 |[],_,h=>by simp at h
 | (n,k)::r,x,h=>by
   have ih:=@BJ env r x;show List.lookup x ((if(k^^^n&&&env)=true then(n,NameKind.cell)else(n,k))::_)=_\/List.lookup x ((if(k^^^n&&&env)=true then(n,NameKind.cell)else(n,k))::_)=_;cases hx:x == n with
   |true=>
     simp only[lookup_cons,hx]at h;cases h
     by_cases hc:(NameKind.free == NameKind.free && env.scope.kind == .function && env.kindOf n == some .cell)=true
     .rw[iP hc];right;rw[lookup_cons,hx]
     .rw[iN hc];left;rw[lookup_cons,hx]
   |false=>
     simp only[lookup_cons,hx]at h
     by_cases hc:(k^^^n&&&env)=true
     .rw[iP hc];simp only[lookup_cons,hx];exact ih h
     .rw[iN hc];simp only[lookup_cons,hx];exact ih h
theorem Ef{env:Env}:∀{names:List (Str×NameKind)} {x:Str},(∀y∈names,y.2≠.cell)->
 ((names.map λ(n,k)=>if(k^^^n&&&env)then(n,NameKind.cell)else(n,k)).lookup x=some .cell\/
 (names.map λ(n,k)=>if(k^^^n&&&env)then(n,NameKind.cell)else(n,k)).lookup x=some .free)->∃y∈names,y.1=x/\y.2= .free
 |[],_,_,h=>by simp at h
 | (n, k)::r,x,hn,h=>by
   have ih:=@Ef env r x λy hy=>hn y (mem_cons_of_mem _ hy)
   have hnk:k≠.cell:=hn (n,k) mS
   have h:List.lookup x ((if(k^^^n&&&env)=true then(n,NameKind.cell)else(n,k))::(r.map λ(n,k)=>if(k^^^n&&&env)then(n,NameKind.cell)else(n,k)))=some .cell\/
    List.lookup x ((if(k^^^n&&&env)=true then(n,NameKind.cell)else(n,k))::(r.map λ(n,k)=>if(k^^^n&&&env)then(n,NameKind.cell)else(n,k)))=some .free:=h
   by_cases hc:(k^^^n&&&env)=true
   .rw [iP hc]at h;cases hx:x == n with
    |true=>
      have hk:k= .free:=by
       simp only[bA]at hc;simpa using hc.1.1
      exact#[(n,k),mS,(by simpa using hx:x=n).symm,hk]
    |false=>
      simp only[lookup_cons,hx]at h;rintro⟨y,hy,q⟩:ih h;exact#[y,mem_cons_of_mem _ hy,q]
   .rw[iN hc]at h;cases hx:x == n with
    |true=>
      simp only[lookup_cons,hx,Option.some.injEq]at h;refine#[(n,k),mS,(by simpa using hx:x=n).symm,?_];rcases h with h|h
      .exact absurd h hnk
      .exact h
    |false=>
      simp only[lookup_cons,hx]at h;rintro⟨y,hy,q⟩:ih h;exact#[y,mem_cons_of_mem _ hy,q]
section
variable{p0:Oa}{Y:St}{H:Hp}{s:Shared}{N:List Str}{scope:Scope}{fr:List (Option Nat)}{fp:List Addr}{C:Addr}
theorem Qm(I:∅)(ok:De X.N X.env.scope N scope fr)(hf:∀b∈fp,Fe X p0 H b)(hfl:∀b∈fp,b < s.heap.objs.size){h1:Heap}{m:Str->Option Value}{tk:Nat}(hC:s.heap.objs.size<=C)(hns:h1.Ns C m)
 (k:∀b o,s.heap.get? b=some o->h1.get? b=some o):Inv (AQ X N scope C s H fp) [] (Dz fr Y) H {s with heap:=h1,toks:=tk}:=by
 have hcl:∀y∈scope.names,y.2= .free->∃c,X.env.cells.lookup y.1=some c:=λy hy e=>I.ok.has y.1 (ok.free y hy e)
 have EZ:∀{x:Str} {c:Addr},(GR X.env.cells scope.names []).lookup x=some c->X.env.cells.lookup x=some c:=λ{x c} e=>EC scope.names [] hcl (λy d q=>by simp at q) e
 refine⟨#[I.ok.mod,ok.kind,I.ok.glob,I.ok.blt,hC,λx y c e1 e2=>I.ok.inj x y c (EZ e1) (EZ e2),λx hx=>?_,λx c hf' _=>?_,I.ok.hd,I.ok.frames,.inl rfl,λb hb=>#[?_,λx c e=>?_],I.bs,Nat.le_trans I.ok.UN I.sz,λb o e hb=>?_,λb hb hs=>?_,I.stack,I.Io],
  rfl,I.bare,Un.kept k,#[m,hns,λj x v e1 e2 e3=>?_],λx c e=>?_,I.Aj.fresh hC,λx c e=>I.Ey x c (EZ e),λp hp=>?_,I.Aj.kept k,?_⟩
 .obtain⟨y,hy,e1,e2⟩:=Ef (env:=X.env) ok.CI hx;exact DN scope.names [] (.inl #[y,hy,e1,e2])
 .exact absurd hf' (by show ¬(false=true);decide)
 .exact Nat.ne_of_lt (Nat.lt_of_lt_of_le (hfl b hb) hC)
 .exact(hf b hb).2.2.2.2.1 x c (EZ e)
 .rcases(hf b hb).2.2.2.1 with z|z
  .exact I.ok.Wq b o e z
  .exact absurd (Nat.lt_of_lt_of_le (hZ e) (Nat.le_trans I.ok.UN z)) (Nat.lt_irrefl _)
 .rcases mem_cons.mp (I.Ge b hs)with e|e
  .exact(hf b hb).2.1 e
  .exact(hf b hb).2.2.1 e
 .have e2:(fr.map λo=>o.bind λi=>(Y[i]?).join)[j]? =some (some v):=e2;rw[List.getElem?_map]at e2;cases ef:fr[j]? with
  |none=>rw[ef]at e2;cases e2
  |some o=>
    rw[ef]at e2;have e2:(o.bind λi=>(Y[i]?).join)=some v:=Option.some.inj e2;cases o with
    |none=>cases e2
    |some i=>
      have e2:(Y[i]?).join=some v:=e2
      have eY:Y[i]? =some (some v):=by
       cases q:Y[i]? with
       |none=>rw[q]at e2;cases e2
       |some z=>rw[q]at e2;exact congrArg some e2
      rintro⟨x',n1,n2,fx⟩:ok.EZ j i ef;have:x'=x:=Option.some.inj (n1.symm.trans e1);subst this;have hsc:=ok.free _ (PySem.mem_of_lookup fx) rfl;rintro⟨m0,hn0,hl0⟩:I.loc;rintro⟨u,r,l⟩:hl0 i x' v n2 eY (by rcases hsc with z|z;exact .inr (.inl z);exact .inr (.inr z));refine#[u,r,?_];rcases l with⟨q,_⟩|⟨_,c,ec,⟨oc,hoc,hod⟩⟩
      .have q:X.env.scope.names.lookup x'=some .local:=q;rcases hsc with z|z
       .rw[z]at q;cases q
       .rw[z]at q;cases q
      .obtain⟨c',e'⟩:=DN (cells:=X.env.cells) scope.names [] (.inl #[_,PySem.mem_of_lookup fx,rfl,rfl]);have:c'=c:=Option.some.inj ((EZ e').symm.trans ec);subst this;refine .inr #[?_,c',e',oc,k _ _ hoc,hod];rcases BJ (env:=X.env) fx with z|z
       .exact .inr z
       .exact .inl z
 .obtain⟨v,oc,hoc,hod⟩:=I.cell x c (EZ e);exact#[v,oc,k _ _ hoc,hod]
 .exact absurd (show p∈([]:Oa)from hp) (by simp)
 .unfold Dz;rw[lM];exact ok.len
theorem Inv.Yg{xs:List V}{its:List Value}{n:Nat}(I:∅)(hD:Fe X p0 H D)(hz:xs.length<=sizeLine)(r:Vals xs its)(e:s.heap.get? D=some {cls:=.type "list",data:=.seq its.toArray n}):
 Inv X p0 Y (upd H D (.lst xs)) s:=by
 have hn:=hD.1;have ne:∀b u,H b=some u->b≠D:=λb u q=>AI q hn
 refine I.step (h':=s.heap) (g':=s.gens) (d':=s.drawn) (t':=s.toks) (ch:=[D]) (λb hb=>?_) (λb o _ _ _ q _=>q) (λb o _ _ _ q _=>#[o.slots,q]) (λb o hb _ q=>?_) (λb o _ q=>#[o,q])
  (λb xs q=>by rw[A4 (ne b _ q)];exact q) (λb o u q=>by rw[A4 (ne b _ q)];exact q) (λb ps q=>#[[].toArray,by rw[A4 (ne b _ q),q];simp]) (λm q=>q) (λb u q=>?_) I.bare
 .have:b=D:=by simpa using hb
  subst this;exact#[hD.2.2.2.1,hD.2.1,hD.2.2.2.2.1,hD.2.2.2.2.2]
 .rw[A4 (λz=>hb (by simp[z]))];exact q
 .by_cases hb:b=D
  .subst hb;rw[A6]at q;cases q;exact#[hz,its,n,r,e]
  .rw[A4 hb]at q;exact(I.Aj b u q).GZ (λc v _ z=>z) (λc z=>by rw[A4 (ne c _ z)];exact z) λc xs z=>by rw[A4 (ne c _ z)];exact z
def CompEnd(X:Cx)(p0:Oa)(Y:St)(Q:List V->Hp->Prop)(acc:Value)(C:Addr)(r:Result)(s':Shared):Prop:=
 r= .ok .next/\∃(D:Addr) (H':Hp) (xs:List V),acc= .ref D/\H' D=none/\Inv X p0 Y (upd H' D (.lst xs)) s'/\(∃m,s'.heap.Ns C m)/\Fe X p0 (upd H' D (.lst xs)) C/\Q xs H'
end
end L2
namespace PySem
open Sem (wp)
open AutoSeq1 (wpAny_loadPart')
namespace RV
theorem MU:Slot "reversed" "__init__" "object.__init__":=
 .of (owner:="object") (n:="__init__") (by rw[typeLookup_type,builtinLookup_eq_fast];kernel_rfl) #[] #[] #[]
  (by first|exact .inl #[]|exact .inr #[]) (by rw[isSubtype_type];kernel_rfl)
theorem LD:TypeCalled "reversed" "reversed.__new__" "object.__init__":=
 #[by decide +kernel,by decide +kernel,#[_,_,F.mro_reversed],F.made_reversed,by decide +kernel,F.sub_reversed_self,MU]
theorem Jl:typeLookup (.type "tuple") "__reversed__"=pure none:=by rw[typeLookup_type,builtinLookup_eq_fast];kernel_rfl
theorem Im:isSubtype (.type "tuple") (.type "dict")=pure false:=by rw[isSubtype_type];kernel_rfl
theorem slot_next:Slot "reversed" "__next__" "reversed.__next__":=
 .of (owner:="reversed") (n:="__next__") (by rw[typeLookup_type,builtinLookup_eq_fast];kernel_rfl) #[] #[] #[]
  (by first|exact .inl #[]|exact .inr #[]) (by rw[isSubtype_type];kernel_rfl)
theorem entry_next:entryFor table "reversed.__next__"=some Builtin.«reversed.__next__»:=entryFor_of_tree (by kernel_rfl)
theorem Gr:Manifest.owners.lookup (String.ofList ['d','e','s','r','e','v','e','r'].reverse)=some Manifest.sig_reversed:=by kernel_rfl
theorem args_next(a:Value):argsOk "reversed.__next__" #[[a],[]]:=by
 unfold argsOk;rw[signature?_of (id:="reversed.__next__") (n:=['_','_','t','x','e','n','_','_']) (o:=['d','e','s','r','e','v','e','r']) (by kernel_rfl) Gr];kernel_rfl
theorem Hr:Slot "reversed" "__iter__" "reversed.__iter__":=
 .of (owner:="reversed") (n:="__iter__") (by rw[typeLookup_type,builtinLookup_eq_fast];kernel_rfl) #[] #[] #[]
  (by first|exact .inl #[]|exact .inr #[]) (by rw[isSubtype_type];kernel_rfl)
theorem NH(a:Value):argsOk "reversed.__iter__" #[[a],[]]:=by
 unfold argsOk;rw[signature?_of (id:="reversed.__iter__") (n:=['_','_','r','e','t','i','_','_']) (o:=['d','e','s','r','e','v','e','r']) (by kernel_rfl) Gr];kernel_rfl
theorem Lw:entryFor table "reversed.__iter__"=some Builtin.«dict_keyiterator.__iter__»:=
 entryFor_alias (id':="dict_keyiterator.__iter__") (by kernel_rfl) (by first|rfl|decide +kernel|(unfold String.splitOn;simp +decide [String.splitOnAux])) #[] (by kernel_rfl)
theorem DF:Slot "reversed" "__length_hint__" "reversed.__length_hint__":=
 .of (owner:="reversed") (n:="__length_hint__") (by rw[typeLookup_type,builtinLookup_eq_fast];kernel_rfl) #[] #[] #[]
  (by first|exact .inl #[]|exact .inr #[]) (by rw[isSubtype_type];kernel_rfl)
theorem GI:entryFor table "reversed.__length_hint__"=some Builtin.«reversed.__length_hint__»:=entryFor_of_tree (by kernel_rfl)
theorem I0(a:Value):argsOk "reversed.__length_hint__" #[[a],[]]:=by
 unfold argsOk;rw[signature?_of (id:="reversed.__length_hint__") (n:=['_','_','t','n','i','h','_','h','t','g','n','e','l','_','_']) (o:=['d','e','s','r','e','v','e','r']) (by kernel_rfl) Gr];kernel_rfl
theorem P2:typeLookup (.type "reversed") "__len__"=pure none:=by rw[typeLookup_type,builtinLookup_eq_fast];kernel_rfl
end RV
def Co(t:Addr)(i:Int):Obj:={cls:=.type "reversed",data:=.fields [.ref t,rawInt i].toArray}
open Sem (wp)
open AutoSeq1 (wpAny_loadPart')
open PyProof.Rows
section
variable{prog:Program}{w:World}{A:Around}{E:Va}{s:Shared}
theorem Yz{i n:Nat}(h:i < n):seqIndex? (i:Int) n=some i:=by
 have hng:¬((i:Int) < 0):=by omega
 unfold seqIndex?;simp[hng,h]
theorem VC{items:Array Value}(hz:(items.size:Int) < 2 ^ 63):
 Meets (Builtin.«reversed.__new__» #[[.type "reversed",.ref t],[]]) (λ_ R s=>IsTup s.heap t items/\∀tk,R (.ok (.ret (.ref s.heap.objs.size))) {s with heap:=s.heap.push (Co t ((items.size:Int)-1)),toks:=tk}):=
 .of_wp λprog w A R s h=>by
  rintro⟨ht,h⟩:h;unfold Builtin.«reversed.__new__»;refine wB (wpAny_of_eq (newClass_reversed _) ?_)
  try dsimp only
  refine wB (wpAny_of_eq (a:=()) (by first|rfl|kernel_rfl) ?_);refine wB (wpAny_of_eq (a:=()) (by first|rfl|kernel_rfl) ?_)
  try dsimp only
  refine wB (wpAny_specialOf ht.typeIs RV.Jl ?_)
  try dsimp only
  refine wB ?_
  wp_delta
  refine wB (wpAny_isInstance (T:="tuple") (b:=false) ht.typeIs RV.Im ?_);refine xN (by decide) ?_;refine wB (wpAny_specialOf ht.typeIs F.slot_tuple_getitem.lookup ?_)
  try dsimp only
  refine wpAny_ite_split (λ_=>?_) (λhab=>absurd #[] hab);refine wpAny_pure ?_;refine xN (by decide) ?_;refine wB (len_tuple ht hz ?_);refine wB (m:=asInt? _) (wpAny_pure ?_)
  try dsimp only
  refine wB ?_;show wpAny _ _ (newObj (.type "reversed") (.fields [.ref t,rawInt ((items.size:Int)-1)].toArray)) _ _ _;refine wpAny_newObj_type ?_ (by size_fits);exact wpAny_pure #[_,rfl,h _]
theorem Tt{items:Array Value}{Q:Va}(ht:IsTup s.heap t items)(hz:(items.size:Int) < 2 ^ 63)
 (h:∀tk,Q (.ref s.heap.objs.size) {s with heap:=s.heap.push (Co t ((items.size:Int)-1)),toks:=tk}):wpAny (model prog w) A (call (.type "reversed") [.ref t]) Q E s:=
 callType_new RV.LD (by decide) (F.typeCall_reversed_1 _) (F.newCall_reversed_1 _) (λobj=>F.args_object_init_2 obj _) F.entry_reversed_new (VC hz)
  #[ht,λtk=>#[#[_,Heap.get?_push_size _ rfl,rfl],h tk]]
theorem BE(hr:s.heap.get? r=some (Co t i)):s.TypeIs (.ref r) "reversed":=#[_,hr,rfl]
theorem M3{Q:Va}(hr:s.heap.get? r=some (Co t i))(h:Q (.ref r) s):wpAny (model prog w) A (pyIter (.ref r)) Q E s:=by
 refine wpAny_pyIter_slot (BE hr) RV.Hr (wpAny_call_entry RV.Hr (BE hr) RV.Lw ?_ (RV.NH _));show wpAny _ _ (ret (.ref r)) _ _ s;exact wpAny_pure #[_,rfl,"reversed",_,BE hr,RV.slot_next.lookup,h]
theorem RH{i:Nat}{items:Array Value}{x:Value}{Q:Option Value->Shared->Prop}(hr:s.heap.get? r=some (Co t (i:Int)))(ht:IsTup s.heap t items)(hx:items[i]? =some x)(hz:(items.size:Int) < 2 ^ 63)
 (hQ:∀h' tk,h'.get? r=some (Co t ((i:Int)-1))->Heap.SameBut r s.heap h'->Q (some x) {s with heap:=h',toks:=tk}):wpAny (model prog w) A (pyNext (.ref r)) Q E s:=by
 have hi:i < items.size:=by
  rcases Nat.lt_or_ge i items.size with z|z
  .exact z
  .rw[Array.getElem?_eq_none z]at hx;cases hx
 unfold pyNext
 refine wB (wpAny_attempt (wpAny_callSpecial?_slot (name:=Str.ofString "__next__") (BE hr) RV.slot_next
  (wpAny_call_entry RV.slot_next (BE hr) RV.entry_next ?_ (RV.args_next _))))
 unfold Builtin.«reversed.__next__»;refine wB (wpAny_of_eq (a:=(Value.ref r,[])) rfl ?_)
 try dsimp only
 refine wB (wpAny_field hr rfl (x:=.ref t) rfl ?_);refine wB (wpAny_field hr rfl (x:=rawInt (i:Int)) rfl ?_);show wpAny _ _ (if(i:Int) < 0 then _ else _) _ _ s;rw[iN (by omega)];refine wB (wpAny_specialOf ht.typeIs F.slot_tuple_getitem.lookup ?_);refine xN (by decide) ?_;refine wB (wpAny_mkInt' ?_);refine wB (wpAny_attempt (PyProof.Rows.getItem_tuple (j:=i) (x:=x) (by exact ht) (by omega) (by omega) (Yz hi) hx ?_))
 try dsimp only
 refine wB (wpAny_field (s:={s with toks:=_}) hr rfl (x:=rawInt (i:Int)) rfl ?_)
 try dsimp only
 refine wB (wpAny_setField hr rfl (by simp) ?_);refine wpAny_pure #[x,rfl,wpAny_pure (hQ _ _ ?_ (Heap.SameBut.update ..))];exact Heap.get?_update_self _ hr rfl
theorem VD{items:Array Value}{Q:Option Value->Shared->Prop}(hh:A.handled=none)(hr:s.heap.get? r=some (Co t (-1)))
 (hQ:∀h' tk,Heap.ExtBut r s.heap h'->Q none {s with heap:=h',toks:=tk}):wpAny (model prog w) A (pyNext (.ref r)) Q E s:=by
 unfold pyNext
 refine wB (wpAny_attempt (wpAny_callSpecial?_slot (name:=Str.ofString "__next__") (BE hr) RV.slot_next
  (wpAny_call_entry RV.slot_next (BE hr) RV.entry_next ?_ (RV.args_next _))))
 unfold Builtin.«reversed.__next__»;refine wB (wpAny_of_eq (a:=(Value.ref r,[])) rfl ?_)
 try dsimp only
 refine wB (wpAny_field hr rfl (x:=.ref t) rfl ?_);refine wB (wpAny_field hr rfl (x:=rawInt (-1)) rfl ?_);show wpAny _ _ (if(-1:Int) < 0 then _ else _) _ _ s;rw[iP (by decide)];refine wB (wpAny_rule ?_);refine wB ?_
 wp_delta
 refine wB (wpAny_setField hr rfl (by simp) ?_);have hr2:=Heap.get?_update_self (Obj.mapFields λxs=>xs.setIfInBounds 1 (rawInt (-1))) hr rfl;refine wpAny_setField (s:={s with heap:=_}) hr2 rfl (by simp) ?_;refine wB ?_;show wpAny _ _ (newExc (.type "StopIteration") [] >>= _) _ _ _;refine wB ?_;simp only[newExc,newTuple];refine wB (wpAny_newObj_type ?_ (by size_fits));refine wB (m:=firstArgMember _ _) (wpAny_of_eq (a:=Value.none) (by first|rfl|(simp only[firstArgMember];rfl)) ?_);refine wpAny_newObj_type ?_ (by size_fits);simp only[raiseNew];refine wB (wpAny_handled ?_)
 first|rw[show A.in1.handled=none from hh]|rw[hh]
 refine wB (wpAny_pure (wpAny_throw ?_));refine wB (wpAny_isInstance (T:="StopIteration") (b:=true) #[_,Heap.get?_push_size _ rfl,rfl] isSubtype_stop ?_);refine wpAny_pure (hQ _ _ ?_);refine Heap.ExtBut.push ?_ _;refine Heap.ExtBut.push ?_ _;intro b o hb e;exact(Heap.get?_update_other _ _ (Ne.symm hb)).trans ((Heap.get?_update_other _ _ (Ne.symm hb)).trans e)
theorem RJ{items:Array Value}{Q:Bool->Shared->Prop}(hr:s.heap.get? r=some (Co t ((items.size:Int) - 1)))(ht:IsTup s.heap t items)(hz:items.size<=sizeLine)
 (h:∀b tk,Q b {s with toks:=tk}):wpAny (model prog w) A (Builtin.List.listLengthHint (.ref r)) Q E s:=by
 have hz':(items.size:Int) < 2 ^ 63:=by rw[sizeLine_eq]at hz;omega
 unfold Builtin.List.listLengthHint;refine wB (wpAny_specialOf (BE hr) RV.P2 ?_)
 try dsimp only
 refine wpAny_ite_split (λhab=>absurd hab #[]) (λ_=>?_);refine xN (by decide) ?_;refine wB (wpAny_specialOf (BE hr) RV.DF.lookup ?_);generalize hid:("reversed.__length_hint__":String)=id0
 try dsimp only
 rw[show splitId id0=some ("reversed","__length_hint__")from by subst hid;decide +kernel];subst hid
 try dsimp only
 refine wB (wpAny_isInstance (T:="reversed") (b:=true) (BE hr) F.sub_reversed_self ?_);refine xN (by decide) ?_;refine wpAny_ite_split (λhab=>absurd hab #[]) (λ_=>?_);refine wB (wpAny_rule ?_);refine wB (wpAny_of_eq (RV.DF.bind _) ?_)
 try dsimp only
 refine wB (wpAny_attempt (wpAny_call_entry RV.DF (BE hr) RV.GI ?_ (RV.I0 _)));unfold Builtin.«reversed.__length_hint__»;refine wB (wpAny_of_eq (a:=Value.ref r) rfl ?_);refine wB (wpAny_field hr rfl (x:=.ref t) rfl ?_);refine wpAny_ite_split (λhab=>absurd hab (by intro z;cases z)) (λ_=>?_);refine wB (len_tuple ht hz' ?_);refine wB (m:=asInt? _) (wpAny_pure ?_)
 try dsimp only
 refine wB (wpAny_field (s:={s with toks:=_}) hr rfl (x:=rawInt ((items.size:Int)-1)) rfl ?_);show wpAny _ _ (if(items.size:Int) < (items.size:Int)-1+1 then _ else _) _ _ _;rw[iN (by omega)];refine wB (wpAny_mkInt' (wpAny_pure #[_,rfl,?_]))
 try dsimp only
 refine wB (m:=asInt? _) (wpAny_pure ?_)
 try dsimp only
 have e1:(items.size:Int)-1+1=(items.size:Int):=by omega
 rw[e1]
 have hfit:Builtin.List.listFitsIndex (items.size:Int)=true:=by
  have h2:(-(2 ^ 63):Int)<=(items.size:Int):=by omega
  simp only[Builtin.List.listFitsIndex,bA,decide_eq_true_eq];exact#[h2,hz']
 have hneg:¬((items.size:Int) < 0):=by omega
 have hlong:Builtin.List.listTooLong ((items.size:Int).toNat)=false:=by
  rw[Int.toNat_natCast];unfold Builtin.List.listTooLong;exact dF (by omega)
 simp only[hfit,hneg,hlong,Bool.not_true,Bool.false_eq_true,if_false];exact wpAny_pure (h _ _)
theorem Ot(hh:A.handled=none)(I t:Addr)(hne:t≠I)(items:Array Value)(hz:(items.size:Int) < 2 ^ 63):
 Walks prog w A I [I,t] [I] items.size (λi v=>items[items.size-1-i]? =some v) (λi h=>i<=items.size/\h.get? I=some (Co t ((items.size:Int)-1-(i:Int)))/\IsTup h t items) where
 sub:=λb hb=>by simp at hb;simp[hb]
 frame:=λ_ _ _ x hk=>#[x.1,hk I (by simp) _ x.2.1,let⟨o,ho,q⟩:=x.2.2;#[o,hk t (by simp) o ho,q]]
 item:=λi s Q E hi x hQ=>by
  have e:(items.size:Int)-1-(i:Int)=((items.size-1-i:Nat):Int):=by omega
  have hit:=x.2.1;rw[e]at hit;have hx:items[items.size-1-i]? =some (items[items.size-1-i]'(by omega)):=Array.getElem?_eq_getElem (by omega);refine RH hit x.2.2 hx hz λh' tk hit' hs'=>?_
  have e2:((items.size-1-i:Nat):Int)-1=(items.size:Int)-1-((i+1:Nat):Int):=by omega
  rw[e2]at hit';exact hQ _ h' tk hx #[hi,hit',x.2.2.extBut hs'.extBut hne] λb o hb eo=>hs'.extBut b o (λh=>hb (by simp[h])) eo
 done:=λs Q E x hQ=>by
  have e:(items.size:Int)-1-(items.size:Int)= -1:=by omega
  have hit:=x.2.1;rw[e]at hit;exact VD (items:=items) hh hit λh' tk he'=>hQ h' tk λb o hb eo=>he' b o (λh=>hb (by simp[h])) eo
 self:=λ_ _ _ _ x hQ=>M3 x.2.1 hQ
theorem MX{R:Result->Shared->Prop}{items:Array Value}(hh:A.handled=none)(hr:s.heap.get? r=some (Co t ((items.size:Int) - 1)))(ht:IsTup s.heap t items)(hz:items.size<=sizeLine)(hrt:t≠r)(S:Addr)(hSr:S≠r)(hSt:S≠t)(res:Value)(c₀:Nat)
 (hS:s.heap.get? S=some {cls:=.type "list",data:=.seq [].toArray c₀})
 (hR:∀h' tk acc' c',(∀b o,b≠S->b≠r->s.heap.get? b=some o->h'.get? b=some o)->h'.get? S=some {cls:=.type "list",dict:=none,data:=.seq acc' c',slots:=[].toArray}->ItemsOf (λi v=>items[items.size-1-i]? =some v) acc' items.size->R (.ok (.ret res)) {s with heap:=h',toks:=tk}):
 wpAny (model prog w) A.in1 (Builtin.List.listExtendWith (.ref S) (.ref r) res)
  (λfin s'=>match fin with| .done f=>R (.ok f) s'| .again c'=>c'.quiet=true/\codeAny (model prog w) A c' R s') (λe s'=>R (.error e) s') s:=by
 have hz':(items.size:Int) < 2 ^ 63:=by rw[sizeLine_eq]at hz;omega
 have hSf:S∉[r,t]:=by simp only[mem_cons,not_mem_nil,or_false,not_or];exact#[hSr,hSt]
 have W:=Ot (prog:=prog) (w:=w) (A:=A.in1) hh r t hrt items hz'
 have key:∀(h:Heap) (c₁ tk:Nat),(h.get? r=some (Co t ((items.size:Int) - 1))/\IsTup h t items)->(∀b o,b≠S->s.heap.get? b=some o->h.get? b=some o)->
  h.get? S=some {cls:=.type "list",data:=.seq [].toArray c₁}->codeAny (model prog w) A (.builtin "list.extend.loop" #[[.ref S,.ref r,res],[]]) R {s with heap:=h,toks:=tk}:=by
  intro h c₁ tk hst hk hS₁;refine codeAny_extend_loopS W.toS hz S hSf res items.size 0 _ [].toArray c₁ rfl (Nat.zero_le _) #[Nat.zero_le _,by simpa using hst.1,hst.2] hS₁ (ItemsOf.nil _) λs' acc' c' hm hS' hacc=>?_
  have hb0:=λb o (hb:b≠S) (hb2:b≠r) (e:s.heap.get? b=some o)=>hm.heap b o (λhmem=>by
   rcases mem_cons.mp hmem with e'|hmem
   .exact hb e'
   .exact hb2 (mE hmem)) (hk b o hb e)
  rw[Moved.eq_with hm];exact hR s'.heap s'.toks acc' c' hb0 hS' hacc
 unfold Builtin.List.listExtendWith;refine wB (wpAny_typeOf (T:="reversed") (BE hr) ?_);have h1:Builtin.List.listSameRef (.ref S) (.ref r)=false:=by simp[Builtin.List.listSameRef,hSr]
 have h2:(Value.type "reversed" == Value.type "list")=false:=by decide
 have h3:(Value.type "reversed" == Value.type "tuple")=false:=by decide
 simp only[h1,h2,h3,Bool.or_false,Bool.false_eq_true,if_false];refine wB (M3 hr ?_);refine wB (wpAny_holding (RJ hr ht hz λb tk=>?_));refine wpAny_ite_split (λ_=>?_) (λ_=>wpAny_pure #[plainId_quiet PySem.F.plain_extend_loop _,key _ c₀ _ #[hr,ht] (λb o _ e=>e) hS]);refine wB (wpAny_rule ?_);refine wB ?_;show wpAny _ _ (updateSeq S (·.push .none) >>= λ_=>updateSeq S (·.pop)) _ _ _;refine wB (wpAny_updateSeq hS rfl ?_);have hS₂:=Heap.get?_update_self (Obj.mapSeq (·.push Value.none)) hS rfl;refine wpAny_updateSeq (hz:=by seq_fits) hS₂ rfl ?_;have hS₃:=Heap.get?_update_self (Obj.mapSeq (·.pop)) hS₂ rfl
 have oth:∀b o,b≠S->s.heap.get? b=some o->((s.heap.update S (Obj.mapSeq (·.push Value.none))).update S (Obj.mapSeq (·.pop))).get? b=some o:=λb o hb e=>
  (Heap.get?_update_other _ _ (Ne.symm hb)).trans ((Heap.get?_update_other _ _ (Ne.symm hb)).trans e)
 refine wpAny_pure #[plainId_quiet PySem.F.plain_extend_loop _,key _ _ _ #[oth _ _ (Ne.symm hSr) hr,?_] oth hS₃];rintro⟨o,ho,q⟩:ht;exact#[o,oth _ _ (Ne.symm hSt) ho,q]
theorem RI{R:Result->Shared->Prop}{items:Array Value}(hh:A.handled=none)(hr:s.heap.get? r=some (Co t ((items.size:Int) - 1)))(ht:IsTup s.heap t items)(hz:items.size<=sizeLine)(hrt:t≠r)(S:Addr)(hSr:S≠r)(hSt:S≠t)
 (hS:s.heap.get? S=some {cls:=.type "list",data:=.seq [].toArray})
 (hR:∀h' tk acc' c',(∀b o,b≠S->b≠r->s.heap.get? b=some o->h'.get? b=some o)->h'.get? S=some {cls:=.type "list",dict:=none,data:=.seq acc' c',slots:=[].toArray}->ItemsOf (λi v=>items[items.size-1-i]? =some v) acc' items.size->R (.ok (.ret .none)) {s with heap:=h',toks:=tk}):
 wpAny (model prog w) A.in1 (Builtin.«list.__init__» #[[.ref S,.ref r],[]])
  (λfin s'=>match fin with| .done f=>R (.ok f) s'| .again c'=>c'.quiet=true/\codeAny (model prog w) A c' R s') (λe s'=>R (.error e) s') s:=by
 show wpAny _ _ (do let old <-Builtin.List.listItems (.ref S);Builtin.List.listUpdate (.ref S) (λ_=>[].toArray);letGo old.toList.reverse;Builtin.List.listExtendWith (.ref S) (.ref r) .none) _ _ s;refine wB ?_;unfold Builtin.List.listItems;refine wB (wpAny_seqItems hS rfl (wpAny_pure ?_));show wpAny _ _ (updateSeq S (λ_=>[].toArray) >>= λ_=>letGo ([].toArray:Array Value).toList.reverse >>= λ_=>Builtin.List.listExtendWith (.ref S) (.ref r) .none) _ _ s;refine wB (wpAny_updateSeq hS rfl ?_);have hS₂:=Heap.get?_update_self (Obj.mapSeq (λ_=>([].toArray:Array Value))) hS rfl
 have oth:∀b o,b≠S->s.heap.get? b=some o->(s.heap.update S (Obj.mapSeq (λ_=>([].toArray:Array Value)))).get? b=some o:=
  λb o hb e=>(Heap.get?_update_other _ _ (Ne.symm hb)).trans e
 refine wB (wpAny_letGo ?_);refine MX (s:={s with heap:=_}) hh (oth _ _ (Ne.symm hSr) hr) (let⟨o,ho,q⟩:=ht;#[o,oth _ _ (Ne.symm hSt) ho,q]) hz hrt S hSr hSt .none _ hS₂ (λh' tk acc' c' hk hS' hacc=>?_);exact hR h' tk acc' c' (λb o hb hb2 e=>hk b o hb hb2 (oth b o hb e)) hS' hacc
theorem RG{Q:Va}{items:Array Value}(hh:A.handled=none)(hr:s.heap.get? r=some (Co t ((items.size:Int) - 1)))(ht:IsTup s.heap t items)(hz:items.size<=sizeLine)(hrt:t≠r)
 (hQ:∀h' tk acc' c',(∀b o,b≠r->s.heap.get? b=some o->h'.get? b=some o)->h'.get? s.heap.objs.size=some {cls:=.type "list",dict:=none,data:=.seq acc' c',slots:=[].toArray}->ItemsOf (λi v=>items[items.size-1-i]? =some v) acc' items.size->Q (.ref s.heap.objs.size) {s with heap:=h',toks:=tk}):
 wpAny (model prog w) A (call (.type "list") [.ref r]) Q E s:=by
 refine callType_codes (Q₁:=λobj s₁=>obj= .ref s.heap.objs.size/\s₁={s with heap:=s.heap.push {cls:=.type "list",data:=.seq [].toArray}}) PySem.F.called_list (PySem.F.typeCall_list_1 _) PySem.F.entry_list_init
  (code_list_new _ #[rfl,rfl]) λobj s₁ h₁=>?_
 rintro⟨rfl,rfl⟩:h₁;have hS:(s.heap.push {cls:=.type "list",data:=.seq [].toArray}).get? s.heap.objs.size=some {cls:=.type "list",data:=.seq [].toArray}:=Heap.get?_push_size _ rfl;have lt1:=hZ hr;have lt2:t < s.heap.objs.size:=let⟨o,ho,_⟩:=ht;hZ ho;refine#[#[_,hS,rfl],PySem.F.args_list_init_2 _ _,RI (A:=A.in1) (s:={s with heap:=_}) hh (gP hr) (let⟨o,ho,q⟩:=ht;#[o,gP ho,q]) hz hrt _ (Nat.ne_of_gt lt1) (Nat.ne_of_gt lt2) hS (λh' tk acc' c' hk hS' hacc=>?_)];exact#[rfl,hQ h' tk acc' c' (λb o hb e=>hk b o (Nat.ne_of_lt (hZ e)) hb (gP e)) hS' hacc]
end
end PySem
namespace L2
open PySem PySem.Spec PyProof.Rows
section
variable{X:Cx}{tg e:Expr}{pos p p1 p2 p3:Pos}{ta te:TE}
def cq(K:Frag)(a:Addr)(xs:List V):It:=
 #[λi H=>i < xs.length/\DO K H a xs,λi H x H'=>H'=H/\xs[xs.length-1-i]? =some x,λi H=>xs.length<=i]
theorem NV{P:Program}{w:World}{K:Frag}{tg:Expr}(a it:Addr)(xs:List V):Turn P w K tg (cq K a xs) [it] it (λi h=>i<=xs.length/\h.IsRevIter it a ((xs.length:Int) - 1 - (i:Int))) where
 mem:=by simp
 obj:=λi h st b hb=>by
  have e:b=it:=by simpa using hb
  subst e;rintro⟨_,o,e,c,d⟩:st;exact#[o,e,λv z=>by rw[d]at z;cases z]
 keep:=λi h h' st k=>#[st.1,st.2.at λo e=>k it (by simp) o e]
 item:=by
  intro X hP hw hK hc i p0 s Y H E I hf st hg;subst hP hw hK;rintro⟨hi,hq⟩:hg;rintro⟨its,rv,p,hz⟩:I.list hq;have hlen:=rv.length;have hx:xs[xs.length-1-i]? =some (xs[xs.length-1-i]'(by lia)):=List.getElem?_eq_getElem (by lia);rintro⟨u,hu,ru⟩:rv.get hx;rintro⟨f0,f1,f2,f3,f4,f5⟩:hf it (by simp);have e1:(xs.length:Int)-1-(i:Int)=((xs.length-1-i:Nat):Int):=by lia
  have st2:=st.2;rw[e1]at st2;refine wpAny_pyNext_rev_item st2 p.isList (x:=u) (by simpa using hu) λh' st' sb=>?_
  have e2:((xs.length-1-i:Nat):Int)-1=(xs.length:Int)-1-((i+1:Nat):Int):=by lia
  rw[e2]at st';have I1:Inv X p0 Y H {s with heap:=h'}:=I.turned (t':=s.toks) (λb o hb e=>(sb.2 b hb).trans e) f0 f1 f3 f4 f5;rintro⟨o,e,c,d⟩:id st';exact#[u,rfl,K1 (s:={s with heap:=h'}) e c d (by decide) #[_,H,I1,ru,#[rfl,hx],#[hi,st'],λb hb=>(hf b hb).1]]
 done:=by
  intro X hP hw hK hc i p0 s Y H E I hf st hg;subst hP hw hK;have hg:xs.length<=i:=hg;have hi:i=xs.length:=Nat.le_antisymm st.1 hg;rintro⟨f0,f1,f2,f3,f4,f5⟩:hf it (by simp);have st2:=st.2;rw[show(xs.length:Int)-1-(i:Int)= -1 by lia]at st2;exact wpAny_pyNext_rev_end (I.ok.hd hc) st2 λh' eb=>#[rfl,I.turned (t':=s.toks) (λb o hb e=>eb b o hb e) f0 f1 f3 f4 f5]
 self:=λ_ _ _ _ _ st h=>wpAny_pyIter_revIter st.2 h
def bI(K:Frag)(tl:TE):TI:=λY H R=>tl Y H λx H1=>∃a xs,x= .ref a/\DO K H1 a xs/\R (cq K a xs) H1
theorem aV{tl:TE}(hg:Gl X "reversed")(hm:X.mg "reversed"=none)(hl:PE X l tl)(hs:starEach [l] X.env=[(false,eval l X.env)]:=by rfl):PI X tg (.Call (.Name "reversed" p) [l] [] pos) (bI X.K tl):=by
 intro p0 s Y H R I h;have h':Jr tl O5 Y H (λvs H1=>match vs with|[x]=>(∃a xs,x= .ref a/\DO X.K H1 a xs/\R (cq X.K a xs) H1)|_=>False):=h;refine Call_ (CJ I hg hm boot_reversed (PyProof.Rows.callWith_type1 (AS (AB hl Bv hs pos p0 s Y H _ I h') λus s1 ⟨vs,H1,I1,r1,q1⟩=>?_) hs rfl))
 match vs,r1,q1 with
 |[x],r1,q1=>
   rintro⟨u,rfl,ru⟩:vals1 r1;rintro⟨a,xs,rfl,hq,q⟩:q1;cases ru;rintro⟨its,rv,pl,hz⟩:I1.list hq;have hlen:=rv.length;refine call_reversed_list pl.isList ?_;have e0:(its.toArray.size:Int)-1=(xs.length:Int)-1:=by rw[size_toArray,hlen]
   rw[e0];have st:(s1.heap.push (revObj a ((xs.length:Int)-1))).IsRevIter s1.heap.objs.size a ((xs.length:Int)-1-((0:Nat):Int)):=#[_,Heap.get?_push_size _ rfl,rfl,by simp[revObj]];refine wpAny_pyIter_revIter st ?_;refine#[s1.heap.objs.size,[s1.heap.objs.size],_,_,H1,rfl,I1.kept (t':=s1.toks) λb o e=>gP e,NV a _ xs,#[Nat.zero_le _,st],λb hb=>?_,q];have e:b=s1.heap.objs.size:=by simpa using hb
   subst e;exact I1.Ll (Nat.le_refl _) (I1.Aj.fresh (Nat.le_refl _))
def dW(K:Frag)(ta:TE):TE:=λY H Q=>ta Y H λx H1=>∃t xs,x= .ref t/\D1 K H1 t xs/\∀l,H1 l=none->Q (.ref l) (upd H1 l (.lst xs.reverse))
theorem KO(hc:X.calm=true)(hg1:Gl X "list")(hm1:X.mg "list"=none)(hg2:Gl X "reversed")(hm2:X.mg "reversed"=none)(he:PE X e te)(hs2:starEach [e] X.env=[(false,eval e X.env)]:=by rfl)
 (hs1:starEach [.Call (.Name "reversed" p2) [e] [] p3] X.env=[(false,eval (.Call (.Name "reversed" p2) [e] [] p3) X.env)]:=by rfl):
 PE X (.Call (.Name "list" p1) [.Call (.Name "reversed" p2) [e] [] p3] [] pos) (dW X.K te):=by
 intro p0 s Y H Q I h;refine wpAny_Call_Name_kw (CJ I hg1 hm1 boot_list ?_ (by decide) (by decide));refine PyProof.Rows.callWith_type1 ?_ hs1 rfl;rw[hs1];show wpAny _ _ (spliced ((false,eval (.Call (.Name "reversed" p2) [e] [] p3) X.env)::backTo pos [])) _ _ s;refine Calls.spliced_cons ?_;refine wpAny_Call_Name_kw (CJ I hg2 hm2 boot_reversed ?_ (by decide) (by decide));have h':Jr te O5 Y H (λvs H1=>match vs with|[x]=>(∃t xs,x= .ref t/\D1 X.K H1 t xs/\∀l,H1 l=none->Q (.ref l) (upd H1 l (.lst xs.reverse)))|_=>False):=h;refine PyProof.Rows.callWith_type1 (AS (AB he Bv hs2 p3 p0 s Y H _ I h') λus s1 ⟨vs,H1,I1,r1,q1⟩=>?_) hs2 rfl
 match vs,r1,q1 with
 |[x],r1,q1=>
   rintro⟨u,rfl,ru⟩:vals1 r1;rintro⟨t,xs,rfl,hq,q⟩:q1;cases ru;rintro⟨its,rv,pl,hz⟩:I1.tuple hq;have hlen:=rv.length;have hzs:its.toArray.size<=sizeLine:=by rw[size_toArray];lia
   refine Tt pl (by rw[size_toArray];have:=D7;lia) λtk=>?_
   refine Calls.spliced_nil ?_;have lt:t < s1.heap.objs.size:=let⟨o,ho,_⟩:=pl;hZ ho;refine RG (t:=t) (items:=its.toArray) (I1.ok.hd hc) (Heap.get?_push_size _ rfl) (let⟨o,ho,z⟩:=pl;#[o,gP ho,z]) hzs (Nat.ne_of_lt lt) λh' tk' acc c' hk hS hacc=>?_
   have hD:s1.heap.objs.size<=(s1.heap.push (Co t ((its.toArray.size:Int)-1))).objs.size:=by rw[Heap.size_push];exact Nat.le_succ _
   have eacc:acc.toList=its.reverse:=by
    apply ext_getElem?;intro j;have hsz:acc.size=its.length:=by rw[hacc.1,size_toArray]
    by_cases hj:j < its.length
    .have ha:acc.toList[j]? =some (acc[j]'(by lia)):=by simp[hsz,hj]
     have hP:=hacc.2 j (acc[j]'(by lia)) (by simp[hsz,hj]);rw[ha,List.getElem?_reverse hj];have hP:its.toArray[its.toArray.size-1-j]? =some (acc[j]'(by lia)):=hP;rw[size_toArray,List.getElem?_toArray]at hP;rw[<-hP]
    .rw[List.getElem?_eq_none (by simp;lia),List.getElem?_eq_none (by simp;lia)]
   refine#[.ref (s1.heap.push (Co t ((its.toArray.size:Int)-1))).objs.size,_,I1.laid (t':=tk') (o:=.lst xs.reverse) (λb o e=>hk b o (Nat.ne_of_lt (hZ e)) (gP e)) hD ?_,rfl,q _ (I1.Aj.fresh hD)];refine#[by rw[List.length_reverse];exact hz,its.reverse,c',rv.reverse,?_];rw[hS,<-eacc]
def aJ:V->Option Int->Option Int->Hp->VK->Prop:=λx lo hi H Q=>∃y,x= .str y/\y.length<=sizeLine/\Q (.str (Txt.slice y lo hi)) H
theorem Vp:Xn X aJ:=by
 intro p0 s Y H x v vl vu lo hi sl Q I rx hs pl pu h;rintro⟨y,rfl,hz,q⟩:h;rintro⟨t,rfl⟩:rx;refine#["str",_,F.slot_str_getitem.lookup,typeIs_str _ _ _,?_];have fin:∀t' k,EP X p0 Y Q (.str (Txt.slice y lo hi) t') {s with toks:=k}:=λt' k=>#[.str (Txt.slice y lo hi),H,I.tok k,#[t',rfl],q]
 rintro⟨o,h1,h2,h3⟩:hs;cases pl with
 |none=>
   cases pu with
   |none=>exact wpAny_getItem_str_slice (l:=none) (u:=none) (st:=none) #[o,h1,h2,h3] rfl (post_val_or_str #[Nat.le_trans (Txt.slice_le y _ _) hz,fin])
   |int j u=>exact wpAny_getItem_str_slice (l:=none) (u:=some (j,u)) (st:=none) #[o,h1,h2,h3] rfl (post_val_or_str #[Nat.le_trans (Txt.slice_le y _ _) hz,fin])
 |int i u=>
   cases pu with
   |none=>exact wpAny_getItem_str_slice (l:=some (i,u)) (u:=none) (st:=none) #[o,h1,h2,h3] rfl (post_val_or_str #[Nat.le_trans (Txt.slice_le y _ _) hz,fin])
   |int j u'=>exact wpAny_getItem_str_slice (l:=some (i,u)) (u:=some (j,u')) (st:=none) #[o,h1,h2,h3] rfl (post_val_or_str #[Nat.le_trans (Txt.slice_le y _ _) hz,fin])
theorem Ke(hc:X.calm=true):Dh X (.builtin "all") (λxs H Q=>∃(l:Addr) (bs:List Bool),xs=[.ref l]/\DO X.K H l (bs.map V.bl)/\Q (.bl (bs.all id)) H):=by
 intro p0 s Y H xs us Q I r h;rintro⟨l,bs,rfl,hq,q⟩:h;rintro⟨u,rfl,ru⟩:vals1 r;cases ru;rintro⟨its,rv,pl,hz⟩:I.list hq;have hlen:=rv.length;rw[lM]at hlen;refine call_all_walk (wpAny_pyIter_list pl.isList ?_);have lt:l < s.heap.objs.size:=hZ pl.isList.choose_spec.1;refine#[_,_,_,_,_,_,λi=>(bs[i]?).getD true,rfl,Walks.list (A:=X.A.in1) (show X.A.in1.handled=none from I.ok.hd hc) _ l (Nat.ne_of_lt lt) its.toArray,#[#[_,Heap.get?_push_size _ rfl,rfl,rfl],pl.isList.at λo e=>gP e],?_,λh' tk hk=>?_]
 .intro i v s' Q' E' hP hQ;have hP:its.toArray[i]? =some v:=hP;rw[List.getElem?_toArray]at hP
  have hi:i < bs.length:=by
   have:=(List.getElem?_eq_some_iff.mp hP).1
   lia
  have hb:(bs.map V.bl)[i]? =some (.bl bs[i]):=by rw[List.getElem?_map,List.getElem?_eq_getElem hi];rfl
  rintro⟨u,hu,ru⟩:rv.get hb;have:u=v:=Option.some.inj (hu.symm.trans hP);subst this;cases ru;refine wpAny_truthy_bool ?_;have e:(bs[i]?).getD true=bs[i]:=by rw[List.getElem?_eq_getElem hi];rfl
  have hQ:Q' ((bs[i]?).getD true) s':=hQ;rw[e]at hQ;exact hQ
 .have e:(List.range its.toArray.size).all (λi=>(bs[i]?).getD true)=bs.all id:=by
   rw[size_toArray,<-hlen];rw[Bool.eq_iff_iff,all_eq_true,all_eq_true];constructor
   .intro h b hb;rintro⟨i,hi,e⟩:mem_iff_getElem.mp hb;have:=h i (mem_range.mpr hi);rw[List.getElem?_eq_getElem hi,e]at this;exact this
   .intro h i hi;have hi:=mem_range.mp hi;have:=h bs[i] (getElem_mem hi);rw[List.getElem?_eq_getElem hi];exact this
  have ee:EP X p0 Y Q (.bool (bs.all id)) {s with heap:=h',toks:=tk}:=by
   refine#[.bl (bs.all id),H,I.kept (t':=tk) λb o e=>hk b o (λz=>?_) (gP e),rfl,q];exact absurd (hZ e) (by rw[mE z];exact Nat.lt_irrefl _)
  rw[e];exact ee
end
variable{g:TG}{te:TE}{Y:St}{H:Hp}{Q:List V->Hp->Prop}{K:Frag}{a:Addr}{xs:List V}
end L2
namespace PySem
open AutoSeq1 (wpAny_loadPart')
theorem T4(l:Addr)(xs:Array Value)(n:Nat)(b:Addr)(ys:Array Value)(n2:Nat)(Bl:Option Addr)(sl:Array (Option Value))(h0:¬(!xs.isEmpty && Builtin.List.listTooLong (xs.size + ys.size))=true)(h1:xs.size<=sizeLine)(h2:xs.size + ys.size<=sizeLine + 1):
 Meets (Builtin.«list.extend» #[[.ref l,.ref b],[]]) (λ_ R s=>s.heap.get? l=some {cls:=.type "list",dict:=none,data:=.seq xs n,slots:=[].toArray}/\
  s.heap.get? b=some {cls:=.type "tuple",dict:=Bl,data:=.seq ys n2,slots:=sl}/\R (.ok (.ret Value.none)) {s with heap:=s.heap.update l (Obj.mapSeq λx=>x++ys),toks:=s.toks}):=
 .of_wp λprog w A R s h=>by
  rintro⟨hp,g,d,tk,os⟩:s;rintro⟨hl,hb,h⟩:h;have hz':(xs++ys).size<=sizeLine+1:=by rw[Array.size_append];exact h2
  wp_walk using(wpAny_updateSeq hl rfl (hz:=h1) (_hz':=hz')),wpAny_loadPart' hl,wpAny_loadPart' hb
  exact#[_,rfl,h]
end PySem
namespace L2
open PySem PySem.Spec PyProof.Rows
section
variable{X:Cx}{tg e:Expr}{pos p p1 p2 p3:Pos}{ta te:TE}
def dz(y:Str):It:=#[λi _=>i < y.length,λi H x H'=>H'=H/\∃c,y.cps[i]? =some c/\x= .str #[[c].toArray],λi _=>y.length<=i]
theorem NU{P:Program}{w:World}{K:Frag}{tg:Expr}(it:Addr)(y:Str)(t:Tok):Turn P w K tg (dz y) [it] it (λi h=>h.IsStrIter it "str_ascii_iterator" y t i) where
 mem:=by simp
 obj:=λi h st b hb=>by
  have e:b=it:=by simpa using hb
  subst e;rintro⟨o,e,c,d⟩:st;exact#[o,e,λv z=>by rw[d]at z;cases z]
 keep:=λi h h' st k=>by
  rintro⟨o,e,r⟩:st;exact#[o,k it (by simp) o e,r]
 item:=by
  intro X hP hw hK hc i p0 s Y H E I hf st hg;subst hP hw hK;have hg:i < y.cps.size:=hg;rintro⟨f0,f1,f2,f3,f4,f5⟩:hf it (by simp);refine wpAny_pyNext_ascii_item st (c:=y.cps[i]) (Array.getElem?_eq_getElem hg) λh' st' sb=>?_
  have I1:Inv X p0 Y H {s with heap:=h',toks:=s.toks+1}:=I.turned (λb o hb e=>(sb.2 b hb).trans e) f0 f1 f3 f4 f5;rintro⟨o,e,c,d⟩:id st';exact#[_,rfl,K1 (s:={s with heap:=h',toks:=s.toks+1}) e c d (by decide) #[.str #[[y.cps[i]].toArray],H,I1,#[_,rfl],#[rfl,_,Array.getElem?_eq_getElem hg,rfl],st',λb hb=>(hf b hb).1]]
 done:=by
  intro X hP hw hK hc i p0 s Y H E I hf st hg;subst hP hw hK;have hg:y.cps.size<=i:=hg;rintro⟨f0,f1,f2,f3,f4,f5⟩:hf it (by simp);exact wpAny_pyNext_ascii_end (I.ok.hd hc) st (Array.getElem?_eq_none hg) λh' eb=>#[rfl,I.turned (t':=s.toks) (λb o hb e=>eb b o hb e) f0 f1 f3 f4 f5]
 self:=λA i s Q E st h=>by
  refine wpAny_pyIter_slot st.typeIs PySem.F.slot_str_ascii_iterator_iter (wpAny_call_entry PySem.F.slot_str_ascii_iterator_iter st.typeIs PySem.F.entry_str_ascii_iterator_iter ?_ (PySem.F.args_str_ascii_iterator_iter_1 _));show wpAny _ _ (ret (.ref it)) _ _ s;exact wpAny_pure #[_,rfl,"str_ascii_iterator",_,st.typeIs,PySem.F.slot_str_ascii_iterator_next.lookup,h]
theorem N2:BG X (compareOp .LtE) (λx y H Q=>∃i j,x= .str i/\y= .str j/\Q (.bl (!decide (j.cps.toList < i.cps.toList))) H):=by
 intro p0 s Y H x y v u Q I rx ry h;rintro⟨i,j,rfl,rfl,q⟩:h;rintro⟨t,rfl⟩:rx;rintro⟨t',rfl⟩:ry;exact PySem.P.le_str (Lo I q rfl)
end
end L2
namespace PySem
open Sem (wp)
open AutoSeq1 (wpAny_loadPart')
open PyProof.Rows
namespace LV
theorem DF:Slot "list_reverseiterator" "__length_hint__" "list_reverseiterator.__length_hint__":=
 .of (owner:="list_reverseiterator") (n:="__length_hint__") (by rw[typeLookup_type,builtinLookup_eq_fast];kernel_rfl) #[] #[] #[]
  (by first|exact .inl #[]|exact .inr #[]) (by rw[isSubtype_type];kernel_rfl)
theorem GI:entryFor table "list_reverseiterator.__length_hint__"=some Builtin.«list_reverseiterator.__length_hint__»:=entryFor_of_tree (by kernel_rfl)
theorem OU:Manifest.owners.lookup (String.ofList ['r','o','t','a','r','e','t','i','e','s','r','e','v','e','r','_','t','s','i','l'].reverse)=some Manifest.sig_list_reverseiterator:=by kernel_rfl
theorem I0(a:Value):argsOk "list_reverseiterator.__length_hint__" #[[a],[]]:=by
 unfold argsOk;rw[signature?_of (id:="list_reverseiterator.__length_hint__") (n:=['_','_','t','n','i','h','_','h','t','g','n','e','l','_','_']) (o:=['r','o','t','a','r','e','t','i','e','s','r','e','v','e','r','_','t','s','i','l']) (by kernel_rfl) OU];kernel_rfl
theorem P2:typeLookup (.type "list_reverseiterator") "__len__"=pure none:=by rw[typeLookup_type,builtinLookup_eq_fast];kernel_rfl
end LV
end PySem
namespace HT
open PySem PyProof.Rows
section
variable{prog:Program}{w:World}{A:Around}{E:Va}{s:Shared}
theorem DQ{sl:Addr}{items:Array Value}{vl vu:Value}{lo hi:Option Int}{Q:Va}(ht:IsTup s.heap t items)(hs:s.heap.IsSliceOf sl vl vu .none)(pl:IsPart vl lo)(pu:IsPart vu hi)
 (hw:BD items.size 0 lo=0/\BD items.size items.size hi=items.size)(h:Q (.ref t) s):wpAny (model prog w) A (getItem (.ref t) (.ref sl)) Q E s:=by
 rintro⟨os,hos,hcs,hds⟩:id hs;have hTs:s.TypeIs (.ref sl) "slice":=#[os,hos,hcs];unfold getItem
 try with_reducible refine wpAny_holding ?_
 first|refine wB (wpAny_pure ?_)|skip
 refine wB (wpAny_sequenceKey ht.typeIs (by decide) ?_)
 refine wB (wpAny_callSpecial?_slot (name:=Str.ofString "__getitem__") ht.typeIs PyProof.Rows.slot_tuple_getitem
  (wpAny_call_entry PyProof.Rows.slot_tuple_getitem ht.typeIs entry_tuple_getitem ?_ (args_tuple_getitem _ _)))
 show wpAny _ _ (Builtin.Tuple.tupleItemsOf (.ref t) >>= _) _ _ s;refine wB (tupleItemsOf_ ht ?_);refine wB (wpAny_typeOf hTs ?_);rw[iP (by decide)];refine wB (CM hs pl pu ?_)
 have hyes:((((BD items.size 0 lo:Nat):Int) == 0 && (1:Int) == 1 && (BD items.size items.size hi - BD items.size 0 lo) == items.size)=true):=by
  rw[hw.1,hw.2];simp
 show wpAny _ _ (if(((BD items.size 0 lo:Nat):Int) == 0 && (1:Int) == 1 && (BD items.size items.size hi-BD items.size 0 lo) == items.size)=true then _ else _) _ _ s;rw[iP hyes];unfold Builtin.Tuple.tupleIsExact;refine wB (wB (wpAny_typeOf ht.typeIs (wpAny_pure ?_)));rw[iP (by decide)];refine wB (wpAny_rule ?_);exact wpAny_pure #[_,rfl,wpAny_pure h]
end
end HT
namespace L2
open PySem PySem.Spec PyProof.Rows
variable{X:Cx}
def YF(K:Frag):V->Option Int->Option Int->Hp->VK->Prop:=λx lo hi H Q=>∃a xs,x= .ref a/\D1 K H a xs/\
 (HT.BD xs.length 0 lo=0/\HT.BD xs.length xs.length hi=xs.length)/\Q (.ref a) H
theorem RA:Xn X (YF X.K):=by
 intro p0 s Y H x v vl vu lo hi sl Q I rx hs pl pu h;rintro⟨a,xs,rfl,hx,hw,q⟩:h;cases rx;rintro⟨its,r,ht,hz⟩:I.tuple hx;have hlen:its.toArray.size=xs.length:=by rw[size_toArray];exact r.length.symm
 refine#["tuple",_,PyProof.Rows.slot_tuple_getitem.lookup,ht.typeIs,?_];refine HT.DQ ht hs pl pu (by rw[hlen];exact hw) ?_;exact#[.ref a,_,I,rfl,q]
end L2
namespace Nv
open PySem
inductive P where
 |AG|bl (b:Bool)|int (i:Int)|str (x:Str)|tup (ps:List P)|fn (i:Nat)(c:List P)|box (t:Nat)(ps:List P)
 deriving Inhabited
inductive Fd where
 |p (x:P)|d (kvs:List (P×P))
def Fd.XD:Fd->Bool
 |.d _=>true
 |_=>false
inductive C where
 |p (x:P)|lst (o:Bool)(ps:List P)|Bl (o:Bool)(kvs:List (P×P))|obj (o:Bool)(fs:List Fd)
 deriving Inhabited
abbrev Env:=List (Option C)
def A8(U:Env)(i:Nat):Option C:=(U[i]?).getD none
def C.bor:C->C
 |.p x=>.p x
 |.lst _ ps=>.lst false ps
 |.Bl _ kvs=>.Bl false kvs
 |.obj _ fs=>.obj false fs
inductive Res(α:Type) where
 |stuck|ok (a:α)
def Res.bind{α β:Type}(r:Res α)(f:α->Res β):Res β:=match r with
 |.stuck=>.stuck
 |.ok a=>f a
def Res.of{α:Type}:Option α->Res α
 |some a=>.ok a
 |none=>.stuck
def C.CK:C->Option P
 |.p x=>some x
 |.lst o ps=>if o then some (.box 0 ps)else none
 |_=>none
inductive Tg where
 |nm (i:Nat)|tup (is:List Nat)
def Tg.slots:Tg->List Nat
 |.nm i=>[i]
 |.tup is=>is
abbrev Sq:=C->Option (List P)
inductive T where
 |cst (c:C)|var (i:Nat)
 |Ak (f:C->Option C)(a:T)|A1 (f:C->C->Option C)(a b:T)|Xx (f:C->C->C->Option C)(a b c:T)
 |Tn (f g:C->C->Option C)(a b c:T)
 |tup (ts:List T)|lst (ts:List T)
 |and (a b:T)|or (a b:T)|not (a:T)|ite (c a b:T)
 |call (f:Nat)(ts:List T)|Bq (f:Nat)(a:T)(ts:List T)|make (f:Nat)(ts:List T)|app (i:Nat)(ts:List T)|Kf (f:Nat)(a:T)(l:Nat)(EK:List Nat)
 |comp (g:Tg)(k:Sq)(it:T)(cond:List T)(elt:T)(fr:List (Option Nat))
inductive S where
 |asg (g:Tg)(t:T)|Ce (i:Nat)(b:Bool)(f:C->List C->Option C)(ts:List T)|pop (d:Option Nat)(i:Nat)|expr (t:T)
 |ret (t:T)|CG (i:Nat)|ifs (c:T)(a b:List S)|QZ (c:T)(b:List S)|Di (g:Tg)(k:Sq)(it:T)(b:List S)
 |no|HQ (i f:Nat)(ts:List T)
abbrev CF:=Nat->List C->Res C
noncomputable def FE:C->Option Bool
 |.p .AG=>some false
 |.p (.bl b)=>some b
 |.p (.int i)=>some (i != 0)
 |.p (.str x)=>if x.length<=100000 then some (x.length != 0)else none
 |.p (.tup ps)=>some (!ps.isEmpty)
 |.p (.box 0 ps)=>some (!ps.isEmpty)
 |.lst _ ps=>some (!ps.isEmpty)
 |_=>none
def C.EL :C->Option Bool
 |.p (.bl b)=>some b
 |_=>none
def C.Zz :C->Option (Nat×List P)
 |.p (.fn i c)=>some (i,c)
 |_=>none
def C.H9 :C->Option P
 |.p x=>some x
 |_=>none
def C.eQ :C->Option Int
 |.p (.int i)=>some i
 |_=>none
def P.CL :P->Option (List P)
 |.tup ps=>some ps
 |_=>none
def Cs(g:Tg)(v:P)(U:Env):Option Env:=match g with
 |.nm i=>some (U.set i (some (.p v)))
 |.tup is=>v.CL.bind λvs=>if is.length=vs.length then some ((is.zip vs).foldl (λr q=>r.set q.1 (some (.p q.2))) U)else none
def AE(fr:List (Option Nat))(U:Env):Env:=fr.map λo=>o.bind λi=>(A8 U i).map C.bor
noncomputable def C7(g:Tg)(cond:Env->Res Bool)(elt:Env->Res C)(β:Env):List P->Res (List P)
 |[]=>.ok []
 |x::xs=>(Res.of (Cs g x β)).bind λβ1=>(cond β1).bind λb=>if b then(elt β1).bind λc=>(Res.of c.CK).bind λy=>(C7 g cond elt β xs).bind λys=>.ok (y::ys)else C7 g cond elt β xs
structure Sm where
 v:Env->Res C
 b:Env->Res Bool
def Sm.of(v:Env->Res C):Sm:=#[v,λU=>(v U).bind λc=>Res.of (FE c)]
def NB(U:Env):List Nat->Option (List P)
 |[]=>some []
 |i::is=>((A8 U i).bind C.eQ).bind λx=>(NB U is).map (.int x::·)
def big:Nat:=100000
def C.WQ:C->Bool
 |.p _=>true
 |_=>false
def C.UA:C->Bool
 |.obj _ _=>true
 |_=>false
def C.Jb:C->Bool
 |.obj o _=>o
 |_=>false
mutual
noncomputable def den (cf:CF):T->Sm
 |.cst c=>.of λ_=>.ok c.bor
 |.var i=>.of λU=>Res.of ((A8 U i).map C.bor)
 |.Ak f a=>.of λU=>((den cf a).v U).bind λx=>Res.of (f x)
 |.A1 f a b=>.of λU=>((den cf a).v U).bind λx=>((den cf b).v U).bind λy=>Res.of (f x y)
 |.Xx f a b c=>.of λU=>((den cf a).v U).bind λx=>((den cf b).v U).bind λy=>((den cf c).v U).bind λz=>Res.of (f x y z)
 |.Tn f g a b c=>.of λU=>((den cf a).v U).bind λx=>((den cf b).v U).bind λy=>(Res.of ((f x y).bind C.EL)).bind λk=>if k then((den cf c).v U).bind λz=>Res.of (g y z)else .ok (.p (.bl false))
 |.tup ts=>.of λU=>(FO cf ts U).bind λps=>if ps.length<=1000 then .ok (.p (.tup ps))else .stuck
 |.lst ts=>.of λU=>(FO cf ts U).bind λps=>if ps.length<=1000 then .ok (.lst true ps)else .stuck
 |.and a b=>#[λU=>((den cf a).v U).bind λc=>(Res.of c.EL).bind λk=>if k then(den cf b).v U else .ok (.p (.bl false)),λU=>((den cf a).b U).bind λk=>if k then(den cf b).b U else .ok false]
 |.or a b=>#[λU=>((den cf a).v U).bind λc=>(Res.of c.EL).bind λk=>if k then .ok (.p (.bl true))else(den cf b).v U,λU=>((den cf a).b U).bind λk=>if k then .ok true else(den cf b).b U]
 |.not a=>#[λU=>((den cf a).v U).bind λc=>(Res.of c.EL).bind λk=>.ok (.p (.bl (!k))),λU=>((den cf a).b U).bind λk=>.ok (!k)]
 |.ite c a b=>#[λU=>((den cf c).b U).bind λk=>if k then(den cf a).v U else(den cf b).v U,λ_=>.stuck]
 |.call f ts=>.of λU=>(BK cf ts U).bind λcs=>cf f cs
 |.Bq f a ts=>.of λU=>((den cf a).v U).bind λc=>if c.UA then(BK cf ts U).bind λcs=>cf f (c::cs)else .stuck
 |.make f ts=>.of λU=>(BK cf ts U).bind λcs=>(cf f (.obj true []::cs)).bind λc=>if c.Jb then .ok c else .stuck
 |.app i ts=>.of λU=>(Res.of ((A8 U i).bind C.Zz)).bind λq=>(BK cf ts U).bind λcs=>cf q.1 (cs++q.2.map .p)
 |.Kf f a l EK=>.of λU=>((den cf a).v U).bind λx=>(Res.of (NB U EK)).bind λps=>(cf f [x,.p (.fn l ps)]).bind λc=>(Res.of c.EL).bind λb=>.ok (.p (.bl b))
 |.comp g k it cond elt fr=>.of λU=>((den cf it).v U).bind λc=>(Res.of (k c)).bind λxs=>if xs.length<=big then(C7 g (FP cf cond) (den cf elt).v (AE fr U) xs).bind λys=>.ok (.lst true ys)else .stuck
noncomputable def BK (cf:CF):List T->Env->Res (List C)
 |[],_=>.ok []
 |t::ts,U=>((den cf t).v U).bind λc=>(BK cf ts U).bind λcs=>.ok (c::cs)
noncomputable def FO (cf:CF):List T->Env->Res (List P)
 |[],_=>.ok []
 |t::ts,U=>((den cf t).v U).bind λc=>(Res.of c.CK).bind λx=>(FO cf ts U).bind λxs=>.ok (x::xs)
noncomputable def FP (cf:CF):List T->Env->Res Bool
 |[],_=>.ok true
 |t::_,U=>(den cf t).b U
end
abbrev ev(cf:CF)(t:T):Env->Res C:=(den cf t).v
abbrev tv(cf:CF)(t:T):Env->Res Bool:=(den cf t).b
inductive Fl where
 |nx (U:Env)|ret (c:C)|stuck
def Res.fl{α:Type}(r:Res α)(f:α->Fl):Fl:=match r with
 |.stuck=>.stuck
 |.ok a=>f a
def C.own:C->Bool
 |.p _=>true
 |.lst o _=>o
 |.Bl o _=>o
 |.obj o _=>o
def Fl.then(r:Fl)(f:Env->Fl):Fl:=match r with
 |.nx U=>f U
 |r=>r
def Fl.turn(r:Fl)(f:Env->Fl):Fl:=match r with
 |.nx U=>f U
 |r=>r
abbrev WH:=(Env->Res Bool)->(Env->Fl)->Env->Fl
def Ay(c:Env->Res Bool)(b:Env->Fl):Nat->Env->Fl
 |0,_=>.stuck
 |n+1,U=>(c U).fl λx=>if x then(b U).turn (Ay c b n)else .nx U
open Classical in
noncomputable def As:WH:=λc b U=>if h:∃n,Ay c b n U≠.stuck then Ay c b h.choose U else .stuck
def forL(g:Tg)(b:Env->Fl):List P->Env->Fl
 |[],U=>.nx U
 | x::xs,U=>match Cs g x U with
   |some U1=>(b U1).turn (forL g b xs)
   |none=>.stuck
def Fo:T->Option Nat
 |.var i=>some i
 |_=>none
def C.SQ:C->Bool
 |.lst o _=>o
 |_=>false
def C.cJ:C->C
 |.lst _ ps=>.lst true ps
 |c=>c
def R5(c0:Option C)(i:Nat)(U:Env):Env:=if c0.any C.SQ then U.set i ((A8 U i).map C.cJ)else U
def Fl.fin(r:Fl)(f:Env->Env):Fl:=match r with
 |.nx U=>.nx (f U)
 |.ret c=>.ret c
 |_=>.stuck
def Gg(g:Tg)(c:C)(U:Env):Option Env:=match g with
 |.nm i=>if c.own then some (U.set i (some c))else none
 |.tup is=>(match c with| .lst _ ps=>some ps| .p x=>x.CL |_=>none).bind λps=>Cs (.tup is) (.tup ps) U
def JG:C->Option (P×C)
 |.lst o ps=>if o then ps.getLast?.map λx=>(x,.lst true ps.dropLast)else none
 |_=>none
mutual
def ZI:S->List Nat
 |.asg g _=>g.slots
 |.pop d _=>d.toList
 |.ifs _ a b=>CD a++CD b
 |.QZ _ b=>CD b
 |.Di g _ _ b=>g.slots++CD b
 |_=>[]
def CD:List S->List Nat
 |[]=>[]
 |s::ss=>ZI s++CD ss
end
mutual
noncomputable def exec (cf:CF) (wh:WH):S->Env->Fl
 | .asg g t,U=>(ev cf t U).fl λc=>match Gg g c U with
   |some U'=>.nx U'
   |none=>.stuck
 | .Ce i b f ts,U=>if !(A8 U i).any (cond b C.SQ λ_=>true)then .stuck else(BK cf ts U).fl λcs=>match(A8 U i).bind λc=>f c cs with
   |some c'=>.nx (U.set i (some c'))
   |none=>.stuck
 | .pop d i,U=>match(A8 U i).bind JG with
   | some q=>match d with
     |some j=>if j=i then .stuck else .nx ((U.set i (some q.2)).set j (some (.p q.1)))
     |none=>.nx (U.set i (some q.2))
   |none=>.stuck
 |.expr t,U=>(ev cf t U).fl λ_=>.nx U
 |.ret t,U=>(ev cf t U).fl λc=>if c.own then .ret c else .stuck
 | .CG i,U=>match A8 U i with
   |some c=>if c.own then .ret c else .stuck
   |none=>.stuck
 |.ifs c a b,U=>(tv cf c U).fl λx=>if x then execs cf wh a U else execs cf wh b U
 |.QZ c b,U=>wh (tv cf c) (execs cf wh b) U
 | .Di g k it b,U=>match Fo it with
   | some i=>match(A8 U i).bind λc=>k c.bor with
     |some xs=>if(g.slots++CD b).contains i then .stuck else(forL g (execs cf wh b) xs (U.set i ((A8 U i).map C.bor))).fin (R5 (A8 U i) i)
     |none=>.stuck
   | none=>(ev cf it U).fl λc=>match k c with
     |some xs=>if c.own then(forL g (execs cf wh b) xs U).fin id else .stuck
     |none=>.stuck
 |.no,_=>.stuck
 | .HQ i f ts,U=>match A8 U i with
   |some c=>if c.Jb then(BK cf ts U).fl λcs=>if cs.all C.WQ then(cf f (c::cs)).fl λc'=>if c'.Jb then .nx (U.set i (some c'))else .stuck else .stuck else .stuck
   |none=>.stuck
noncomputable def execs (cf:CF) (wh:WH):List S->Env->Fl
 |[],U=>.nx U
 |s::ss,U=>(exec cf wh s U).then (execs cf wh ss)
end
structure LI where
 np:Nat
 nl:Nat
 mu:Bool
 body:List S
def C.got(o:Option C):Res C:=match o with
 |some c=>if c.own then .ok c else .stuck
 |none=>.stuck
noncomputable def Cu(cf:CF)(wh:WH)(fi:LI)(args:List C):Res C:=
 if args.length=fi.np then(if fi.mu then(if(CD fi.body).contains 0 then .stuck else match execs cf wh fi.body (args.map some++List.replicate (fi.nl - fi.np) none)with
  |.nx U=>C.got (A8 U 0)
  |_=>.stuck)
  else match execs cf wh fi.body (args.map some++List.replicate (fi.nl-fi.np) none)with
  |.nx _=>.ok (.p .AG)
  |.ret c=>.ok c
  |_=>.stuck)
 else .stuck
def Be(fns:List LI)(wh:WH):Nat->CF
 |0,_,_=>.stuck
 | k + 1,f,args=>match fns[f]? with
   |some fi=>Cu (Be fns wh k) wh fi args
   |none=>.stuck
end Nv
namespace Nv
open PySem
def P.int? :P->Option Int
 |.int i=>some i
 |_=>none
def P.BN :P->Option Str
 |.str i=>some i
 |_=>none
def P.EL :P->Option Bool
 |.bl i=>some i
 |_=>none
def P.Zz :P->Option (Nat×List P)
 |.fn i c=>some (i,c)
 |_=>none
def P.Tw :P->Option (Nat×List P)
 |.box i c=>some (i,c)
 |_=>none
def P.tag:P->Nat
 |.AG=>0| .bl _=>1| .int _=>2| .str _=>3| .tup _=>4| .fn _ _=>5| .box _ _=>6
mutual
def D9:P->P->Bool
 |.AG,q=>q.tag == 0
 |.bl b,q=>q.EL == some b
 |.int i,q=>q.int? == some i
 |.str x,q=>q.BN == some x
 |.tup ps,q=>q.CL.any (CW ps)
 |.fn i c,q=>q.Zz.any λr=>i == r.1 && CW c r.2
 |.box i c,q=>q.Tw.any λr=>i == r.1 && CW c r.2
def CW:List P->List P->Bool
 |[],qs=>qs.isEmpty
 |p::ps,qs=>qs.head?.any (D9 p) && CW ps qs.tail
end
theorem any_some{α:Type}{o:Option α}{f:α->Bool}(h:o.any f=true):∃a,o=some a/\f a=true:=by
 cases o with
 |none=>cases h
 |some a=>exact#[a,rfl,h]
theorem P.AW{q:P}{i:Int}(h:q.int? =some i):q= .int i:=by cases q<;>cases h;rfl
theorem P.Bt{q:P}{i:Str}(h:q.BN =some i):q= .str i:=by cases q<;>cases h;rfl
theorem P.Fz{q:P}{i:Bool}(h:q.EL =some i):q= .bl i:=by cases q<;>cases h;rfl
theorem P.Bs{q:P}{i:List P}(h:q.CL =some i):q= .tup i:=by cases q<;>cases h;rfl
theorem P.Q4{q:P}{i:Nat×List P}(h:q.Zz =some i):q= .fn i.1 i.2:=by cases q<;>cases h;rfl
theorem P.Qt{q:P}{i:Nat×List P}(h:q.Tw =some i):q= .box i.1 i.2:=by cases q<;>cases h;rfl
mutual
theorem MC:∀{p q:P},D9 p q=true->p=q
 |.AG,q,h=>by unfold D9 at h;cases q<;>first|rfl|cases h
 |.bl b,q,h=>by unfold D9 at h;exact(P.Fz (eq_of_beq h)).symm
 |.int b,q,h=>by unfold D9 at h;exact(P.AW (eq_of_beq h)).symm
 |.str b,q,h=>by unfold D9 at h;exact(P.Bt (eq_of_beq h)).symm
 | .tup ps,q,h=>by
   unfold D9 at h;rintro⟨a,h1,h2⟩:any_some h;rw[P.Bs h1,EE h2]
 | .fn i c,q,h=>by
   unfold D9 at h;rintro⟨a,h1,h2⟩:any_some h;rw[bA]at h2;rw[P.Q4 h1,eq_of_beq h2.1,EE h2.2]
 | .box i c,q,h=>by
   unfold D9 at h;rintro⟨a,h1,h2⟩:any_some h;rw[bA]at h2;rw[P.Qt h1,eq_of_beq h2.1,EE h2.2]
theorem EE:∀{ps qs:List P},CW ps qs=true->ps=qs
 |[],qs,h=>by unfold CW at h;exact(isEmpty_iff.mp h).symm
 |p::ps,[],h=>by unfold CW at h;cases h
 | p::ps,q::qs,h=>by
   unfold CW at h;rw[bA]at h;have h1:D9 p q=true:=h.1;rw[MC h1,EE (ps:=ps) (qs:=qs) h.2]
end
mutual
theorem HY:∀(p:P),D9 p p=true
 |.AG=>rfl
 |.bl b=>by unfold D9;exact beq_self_eq_true _
 |.int b=>by unfold D9;exact beq_self_eq_true _
 |.str b=>by unfold D9;exact beq_self_eq_true _
 |.tup ps=>by unfold D9;exact D8 ps
 |.fn i c=>by unfold D9;show(i == i && CW c c)=true;rw[beq_self_eq_true,D8 c];rfl
 |.box i c=>by unfold D9;show(i == i && CW c c)=true;rw[beq_self_eq_true,D8 c];rfl
theorem D8:∀(p:List P),CW p p=true
 |[]=>rfl
 |p::ps=>by unfold CW;show(D9 p p && CW ps ps)=true;rw[HY p,D8 ps];rfl
end
instance:DecidableEq P:=λp q=>decidable_of_bool (D9 p q) #[MC,λh=>h▸HY p]
mutual
def BM:P->P->Bool
 |.tup a,q=>q.tag < 4 || q.CL.any (BA a)
 |.AG,q=>q.tag < 5
 |.bl _,q=>q.tag < 5 && q.tag != 2
 |.int _,q=>q.tag < 5 && q.tag != 1
 |.str _,q=>q.tag < 5
 |_,_=>false
def BA:List P->List P->Bool
 |[],_=>true
 |p::ps,qs=>(match qs with|[]=>true|q::qs=>BM p q && BA ps qs)
end
def C.int?(c:C):Option Int:=c.H9.bind P.int?
def C.BN(c:C):Option Str:=c.H9.bind P.BN
def C.CL(c:C):Option (List P):=c.H9.bind P.CL
def P.Pr(p:P):Option (List P):=p.Tw.bind λr=>if r.1=0 then some r.2 else none
def C.FH :C->Option (List P)
 |.lst _ ps=>some ps
 |.p x=>x.Pr
 |_=>none
def C.seq?(c:C):Option (List P):=c.FH <|> c.CL
def XZ{α:Type}(xs:List α):Option (List α):=if xs.length<=big then some xs else none
abbrev nw(ps:List P):C:=.lst true ps
def Aw(f:Int->Int->Option Int)(a b:C):Option C:=a.int?.bind λi=>b.int?.bind λj=>(f i j).map λk=>.p (.int k)
def bZ(i j:Int):Option Int:=some (i+j)
def ER(i j:Int):Option Int:=some (i-j)
def bu(i j:Int):Option Int:=if(-(2 ^ 64) < i/\i < 2 ^ 64)\/(-(2 ^ 64) < j/\j < 2 ^ 64)then some (i*j)else none
def Dt(i j:Int):Option Int:=if 0 < j then some (i%j)else none
def Ez(i j:Int):Option Int:=if 0 < j/\j < 1073741824 then some (i/j)else none
def JF(i j:Int):Option Int:=if 0<=j/\j<=1000/\i.natAbs < 2 ^ 64 then some (i ^ j.toNat)else none
def bX(a b:C):Option C:=a.BN.bind λi=>b.BN.bind λj=>if i.length+j.length<=big then some (.p (.str (i++j)))else none
def bY(a b:C):Option C:=a.FH.bind λi=>b.FH.bind λj=>(XZ (i++j)).map nw
def Ad(a b:C):Option C:=Aw bZ a b <|> bX a b <|> bY a b
def mulC(a b:C):Option C:=Aw bu a b
abbrev bC(b:Bool):C:=.p (.bl b)
mutual
def P.depth:P->Nat
 |.tup ps=>P.Bi ps+1
 |_=>0
def P.Bi:List P->Nat
 |[]=>0
 |p::ps=>max p.depth (P.Bi ps)
end
def eX(p q:P):Option Bool:=if BM p q=true/\p.depth<=90 then some (decide (p=q))else none
def X7(a b:C):Option Bool:=(a.H9.bind λp=>b.H9.bind λq=>eX p q) <|> (a.FH.bind λp=>b.FH.bind λq=>if BA p q=true/\P.Bi p<=90 then some (decide (p=q))else none)
def Bd(a b:C):Option C:=(X7 a b).map bC
def Em(a b:C):Option C:=(X7 a b).map λk=>bC (!k)
def L4(a b:C):Option C:=a.int?.bind λi=>b.int?.map λj=>bC (decide (i < j))
def Nr(a b:C):Option C:=a.int?.bind λi=>b.int?.map λj=>bC (decide (j < i))
def Zu(a b:C):Option C:=a.int?.bind λi=>b.int?.map λj=>bC (decide (j<=i))
def eI(a b:C):Option C:=a.int?.bind λi=>b.int?.map λj=>bC (decide (i<=j))
def eG(a b:C):Option C:=a.BN.bind λi=>b.BN.map λj=>bC (decide (i.cps.toList<=j.cps.toList))
def L8(a b:C):Option C:=eI a b <|> eG a b
def C.Wm:C->Bool
 |.p x=>decide (x= .AG)
 |_=>false
def Ft(a b:C):Option C:=b.H9.bind λq=>if q= .AG then some (bC a.Wm)else none
def E5(a b:C):Option C:=b.H9.bind λq=>if q= .AG then some (bC (!a.Wm))else none
def Cv{α:Type}(f:P->Option α):List P->Option (List α)
 |[]=>some []
 |p::ps=>(f p).bind λx=>(Cv f ps).map (x::·)
def cY(a b:C):Option Bool:=a.BN.bind λx=>b.seq?.bind λps=>(Cv P.BN ps).map λxs=>xs.contains x
def CT(kvs:List (P×P))(k:P):Option P:=(kvs.find? λq=>decide (q.1=k)).map (·.2)
def dput(kvs:List (P×P))(k v:P):List (P×P):=if(kvs.any λq=>decide (q.1=k))=true then kvs.map λq=>if q.1=k then(q.1,v)else q else kvs++[(k,v)]
def keyOk:P->Bool
 |.int _=>true
 |.str _=>true
 |.tup ps=>ps.all λp=>p.tag == 3
 |_=>false
def Bk(kvs:List (P×P))(k:P):Bool:=keyOk k && kvs.all λq=>q.1.tag == k.tag
def C.Td :C->Option (List (P×P))
 |.Bl _ kvs=>some kvs
 |_=>none
def inD(a b:C):Option Bool:=a.H9.bind λk=>b.Td.bind λkvs=>if Bk kvs k then some (CT kvs k).isSome else none
def IL(a b:C):Option Bool:=cY a b <|> inD a b
def Nn(a b:C):Option C:=(IL a b).map bC
def JN(a b:C):Option C:=(IL a b).map λk=>bC (!k)
def II(n:Nat)(i:Int):Option Nat:=if 0<=i then(if i < n then some i.toNat else none)else(if -(n:Int)<=i then some (i+n).toNat else none)
def sign(c:Nat):P:=.str #[[c].toArray]
def signs(x:Str):List P:=x.cps.toList.map sign
def C.Ku(c:C):Option (List P):=c.BN.bind λx=>if x.length<=big then some (signs x)else none
def Ae(c i:C):Option C:=(c.seq? <|> c.Ku).bind λps=>i.int?.bind λi=>(II ps.length i).bind λk=>(ps[k]?).map .p
def Eu(c k:C):Option C:=c.Td.bind λkvs=>k.H9.bind λk=>if Bk kvs k then some (.p ((CT kvs k).getD .AG))else none
def DS(n d:Nat):Option Int->Nat
 |none=>d
 |some v=>if v < 0 then(v+n).toNat else min v.toNat n
def cut{α:Type}(xs:List α)(lo hi:Option Int):List α:=(xs.drop (DS xs.length 0 lo)).take (DS xs.length xs.length hi-DS xs.length 0 lo)
def eg(lo hi:Option Int)(x:C):Option C:=x.FH.map λps=>nw (cut ps lo hi)
def e8(lo hi:Option Int)(x:C):Option C:=x.CL.map λps=>.p (.tup (cut ps lo hi))
def cT(lo hi:Option Int)(x:C):Option C:=x.BN.bind λx=>if(lo.all (0<=·) && hi.all (0<=·))/\x.length<=big then some (.p (.str #[(cut x.cps.toList lo hi).toArray]))else none
def Jy(lo hi:Option Int)(x:C):Option C:=eg lo hi x <|> e8 lo hi x <|> cT lo hi x
def M1(x lo:C):Option C:=lo.int?.bind λl=>Jy (some l) none x
def Ol(x hi:C):Option C:=hi.int?.bind λh=>Jy none (some h) x
def Vq(x lo hi:C):Option C:=lo.int?.bind λl=>hi.int?.bind λh=>Jy (some l) (some h) x
def AD(c:C):Option C:=(c.seq? <|> c.Ku).map λps=>.p (.int ps.length)
def Hc(f:Int->Option P)(c:C):Option C:=c.int?.bind λi=>(f i).map .p
def N5(i:Int):Option P:=some (.int (-i))
def TJ(i:Int):Option P:=some (.int (if i < 0 then -i else i))
def CP(c:C):Option C:=(c.seq?.map nw) <|> (c.Ku.bind λps=>if(c.BN.any λx=>x.cps.all λk=>decide (k < 128))then some (nw ps)else none) <|> (c.Td.map λkvs=>nw (kvs.map (·.1)))
def Pp(c:C):Option C:=c.CL.map λps=>nw ps.reverse
def Jm(c:C):Option C:=c.seq?.map λps=>.p (.tup ps)
def Fc(c:C):Option C:=c.FH.bind λps=>(Cv P.EL ps).map λbs=>bC (bs.all id)
def MP:P->Option Bool
 |.bl b=>some b
 |.box 0 ps=>some (!ps.isEmpty)
 |_=>none
def anyC(c:C):Option C:=c.FH.bind λps=>(Cv MP ps).map λbs=>bC (bs.any id)
def Pb(i j:Int):Option Int:=some (if i < j then j else i)
def P9(i j:Int):Option Int:=some (if j < i then j else i)
def AN:List Str->Nat
 |[]=>0
 |x::r=>if r.contains x then AN r else AN r+1
def L6(c:C):Option C:=c.CL.bind λps=>(Cv P.BN ps).bind λxs=>if xs.length < 4000 then some (.p (.int (AN xs)))else none
def G7(c:C):Option C:=c.BN.bind λx=>if x="abcdefghijklmnopqrstuvwxyz" then some (.p (.str "ABCDEFGHIJKLMNOPQRSTUVWXYZ"))else none
def Dx(c x:C):Option C:=c.FH.bind λps=>(Cv P.BN ps).bind λxs=>x.BN.bind λx=>(xs.idxOf? x).map λ(k:Nat)=>.p (.int (k:Int))
inductive Ty where
 |int|bool|str|tuple|list
def C.ty:C->Nat
 |.p x=>if x.Tw.isSome then(if x.Pr.isSome then 7 else 8)else x.tag
 |.lst _ _=>7
 |.Bl _ _=>8
 |.obj _ _=>9
def Ty.has:Ty->Nat->Bool
 |.int,n=>n == 1 || n == 2
 |.bool,n=>n == 1
 |.str,n=>n == 3
 |.tuple,n=>n == 4
 |.list,n=>n == 7
def FI(t:Ty)(c:C):Option C:=if c.ty=5\/c.ty=9 then none else some (bC (t.has c.ty))
def C.P8:C->Option (List P)
 |.lst o ps=>if o then some ps else none
 |_=>none
def EJ(g:C->C->Option C)(c:C)(cs:List C):Option C:=match cs with
 |[a]=>g c a
 |_=>none
def Ds(g:C->C->C->Option C)(c:C)(cs:List C):Option C:=match cs with
 |[a,b]=>g c a b
 |_=>none
def LF(c x:C):Option C:=c.P8.bind λps=>x.H9.bind λx=>if ps.length < big then some (nw (ps++[x]))else none
def IW(c x:C):Option C:=c.P8.bind λps=>x.seq?.bind λqs=>(XZ (ps++qs)).map nw
def SV(c i x:C):Option C:=c.P8.bind λps=>i.int?.bind λi=>x.H9.bind λx=>if 0<=i/\i<=ps.length/\ps.length < big then some (nw (ps.take i.toNat++x::ps.drop i.toNat))else none
def putL(c i x:C):Option C:=c.P8.bind λps=>i.int?.bind λi=>x.H9.bind λx=>(II ps.length i).map λk=>nw (ps.set k x)
def putD(c i x:C):Option C:=match c with
 |.Bl o kvs=>if o then i.H9.bind λk=>x.H9.bind λv=>if Bk kvs k/\kvs.length < big then some (.Bl true (dput kvs k v))else none else none
 |_=>none
def Dp(c i x:C):Option C:=putL c i x <|> putD c i x
def Fd.c:Fd->C
 |.p x=>.p x
 |.d kvs=>.Bl false kvs
def C.eS :C->Option (List Fd)
 |.obj o fs=>if o then none else some fs
 |_=>none
def C.Wj :C->Option (List Fd)
 |.obj o fs=>if o then some fs else none
 |_=>none
def DA(j:Nat)(c:C):Option C:=c.eS.bind λfs=>(fs[j]?).map Fd.c
def Fd.of:C->Option Fd
 |.Bl o kvs=>if o then some (.d kvs)else none
 |c=>c.CK.map .p
def FF(j:Nat)(c x:C):Option C:=c.Wj.bind λfs=>if fs.length=j then(Fd.of x).map λd=>.obj true (fs++[d])else none
def Fd.WD :Fd->Option (List (P×P))
 |.d kvs=>some kvs
 |_=>none
def Bz(j:Nat)(c x k:C):Option C:=c.Wj.bind λfs=>(fs[j]?).bind λd=>d.WD.bind λkvs=>k.H9.bind λk=>x.H9.bind λx=>if Bk kvs k/\kvs.length < big then some (.obj true (fs.set j (.d (dput kvs k x))))else none
def AM(c:C):Option (List P):=c.seq? <|> (c.Ku.bind λps=>if(c.BN.any λx=>x.cps.all λk=>decide (k < 128))then some ps else none)
def Az(lo hi:Int):List P:=(List.range (hi-lo).toNat).map λk=>.int (lo+(k:Nat))
def DP(c:C):Option (List P):=c.int?.bind λn=>if n.natAbs < 2 ^ 61 then some (Az 0 n)else none
def DV(ps:List P):List P:=ps.zipIdx.map λq=>.tup [.int (q.2:Nat),q.1]
def IY(c:C):Option (List P):=c.FH.map DV
def Gq(a b:C):Option C:=a.H9.bind λx=>b.H9.map λy=>.p (.tup [x,y])
def MJ(x y:List P):List P:=(x.zip y).map λq=>.tup [q.1,q.2]
def C.Yf(c:C):Option (P×P):=c.CL.bind λps=>ps[0]?.bind λa=>ps[1]?.map λb=>(a,b)
def Jf(c:C):Option (List P):=c.Yf.bind λq=>q.1.CL.bind λx=>q.2.CL.map λy=>MJ x y
def KH(c:C):Option (List P):=c.Yf.bind λq=>q.1.int?.bind λi=>q.2.int?.bind λj=>if i.natAbs < 2 ^ 61/\j.natAbs < 2 ^ 61 then some (Az i j)else none
def En(c:C):Option C:=(DP c).bind λps=>if ps.length<=big then some (nw ps)else none
end Nv
namespace Nv
open PySem L2
section
variable{α β:Type}{F:α->β->Prop}
theorem Pd.get:∀{xs:List α} {ys:List β} {i:Nat} {x:α},Paired F xs ys->xs[i]? =some x->∃y,ys[i]? =some y/\F x y
 |_,_,_,_,.nil,e=>by cases e
 |_,_,0,_,.cons h _,e=>by cases e;exact#[_,rfl,h]
 |_,_,i+1,_,.cons _ t,e=>Pd.get (i:=i) t e
theorem Pd.flip:∀{xs:List α} {ys:List β},Paired F xs ys->Paired (λy x=>F x y) ys xs
 |_,_,.nil=>.nil
 |_,_,.cons h t=>.cons h (Pd.flip t)
theorem Pd.append:∀{xs xs':List α} {ys ys':List β},Paired F xs ys->Paired F xs' ys'->Paired F (xs++xs') (ys++ys')
 |_,_,_,_,.nil,k=>k
 |_,_,_,_,.cons h t,k=>.cons h (Pd.append t k)
theorem Pd.drop:∀{xs:List α} {ys:List β} (n:Nat),Paired F xs ys->Paired F (xs.drop n) (ys.drop n)
 |_,_,0,h=>h
 |_,_,_+1,.nil=>.nil
 |_,_,n+1,.cons _ t=>Pd.drop n t
theorem Pd.take:∀{xs:List α} {ys:List β} (n:Nat),Paired F xs ys->Paired F (xs.take n) (ys.take n)
 |_,_,0,_=>.nil
 |_,_,_+1,.nil=>.nil
 |_,_,n+1,.cons h t=>.cons h (Pd.take n t)
theorem Pd.reverse:∀{xs:List α} {ys:List β},Paired F xs ys->Paired F xs.reverse ys.reverse
 |_,_,.nil=>.nil
 |_,_,.cons h t=>by rw[reverse_cons,reverse_cons];exact Pd.append (Pd.reverse t) (.cons h .nil)
theorem Pd.set{x:α}{y:β}(h:F x y):∀{xs:List α} {ys:List β} (i:Nat),Paired F xs ys->Paired F (xs.set i x) (ys.set i y)
 |_,_,_,.nil=>.nil
 |_,_,0,.cons _ t=>.cons h t
 |_,_,i+1,.cons k t=>.cons k (Pd.set h i t)
theorem Pd.insert{x:α}{y:β}(h:F x y){xs:List α}{ys:List β}(i:Nat)(t:Paired F xs ys):Paired F (xs.take i++x::xs.drop i) (ys.take i++y::ys.drop i):=Pd.append (Pd.take i t) (.cons h (Pd.drop i t))
end
structure Wd where
 K:Frag
 w:World
 lc:Addr
 fl:List Str
 fa:Nat->List P->Addr->Prop
 tabs:List (Addr×Pos×Str)
 NA:List (Addr×Str)
def ZT(H:Hp)(a:Addr)(t:Nat)(vs:List V):Prop:=t=0/\∃o,H a=some (.CK o (.lst vs))
mutual
noncomputable def A5 (W:Wd) (H:Hp):P->V->Prop
 |.AG,v=>v= .AG
 |.bl b,v=>v= .bl b
 |.int i,v=>v= .int i
 |.str x,v=>v= .str x
 |.fn i c,v=>∃a,W.fa i c a/\v= .ref a
 |.tup ps,v=>∃a vs,v= .ref a/\D1 W.K H a vs/\BV W H ps vs
 |.box t ps,v=>∃a vs,v= .ref a/\ZT H a t vs/\BV W H ps vs
noncomputable def BV (W:Wd) (H:Hp):List P->List V->Prop
 |[],vs=>vs=[]
 |p::ps,vs=>∃v r,vs=v::r/\A5 W H p v/\BV W H ps r
end
variable{W:Wd}{H H':Hp}{v:V}
theorem MZ:∀{ps:List P} {vs:List V},BV W H ps vs↔Paired (A5 W H) ps vs
 |[],vs=>#[λh=>by unfold BV at h;subst h;exact .nil,λh=>by cases h;unfold BV;rfl]
 | p ::ps,vs=>⟨λh=>by
     unfold BV at h;rintro⟨v,r,rfl,h1,h2⟩:h;exact .cons h1 (MZ.mp h2),λh=>by
     cases h with
     |cons h1 h2=>unfold BV;exact#[_,_,rfl,h1,MZ.mpr h2]⟩
abbrev Cw(W:Wd)(H:Hp):List P->List V->Prop:=Paired (A5 W H)
theorem Aa :A5 W H (.int i) v↔v= .int i:=by unfold A5;exact Iff.rfl
theorem Cz{i:Bool}:A5 W H (.bl i) v↔v= .bl i:=by unfold A5;exact Iff.rfl
theorem AJ :A5 W H (.str i) v↔v= .str i:=by unfold A5;exact Iff.rfl
theorem Dn:A5 W H .AG v↔v= .AG:=by unfold A5;exact Iff.rfl
theorem FW{i:Nat} :A5 W H (.fn i c) v↔∃a,W.fa i c a/\v= .ref a:=by unfold A5;exact Iff.rfl
theorem A9{ps:List P}:A5 W H (.tup ps) v↔∃a vs,v= .ref a/\D1 W.K H a vs/\Cw W H ps vs:=by
 unfold A5;exact#[λ⟨a,vs,h1,h2,h3⟩=>#[a,vs,h1,h2,MZ.mp h3],λ⟨a,vs,h1,h2,h3⟩=>#[a,vs,h1,h2,MZ.mpr h3]]
theorem CN{t:Nat}{ps:List P}:A5 W H (.box t ps) v↔∃a vs,v= .ref a/\ZT H a t vs/\Cw W H ps vs:=by
 unfold A5;exact#[λ⟨a,vs,h1,h2,h3⟩=>#[a,vs,h1,h2,MZ.mp h3],λ⟨a,vs,h1,h2,h3⟩=>#[a,vs,h1,h2,MZ.mpr h3]]
def AH(H H':Hp):Prop:=∀a,(∀xs,H a=some (.tup xs)->H' a=some (.tup xs))/\∀o u,H a=some (.CK o u)->H' a=some (.CK o u)
theorem AH.refl(H:Hp):AH H H:=λa=>#[λ_ h=>h,λ_ _ h=>h]
theorem AH.trans{H1 H2:Hp}(a:AH H H1)(b:AH H1 H2):AH H H2:=λc=>#[λxs h=>(b c).1 xs ((a c).1 xs h),λo u h=>(b c).2 o u ((a c).2 o u h)]
theorem AH.rd(k:AH H H'){u:HO}(hu:∀xs,u= .tup xs->True)(h:Rd H a u)(ht:∃xs,u= .tup xs):Rd H' a u:=by
 rintro⟨xs,rfl⟩:ht;rcases h with h|⟨o,h⟩
 .exact .inl ((k a).1 _ h)
 .exact .inr #[o,(k a).2 _ _ h]
theorem AH.dX{K:Frag}{xs:List V}(k:AH H H')(h:D1 K H a xs):D1 K H' a xs:=h.imp (λh=>k.rd (λ_ _=>trivial) h #[xs,rfl]) id
variable{vs:List V}
theorem ZT.mono{t:Nat}(k:AH H H')(h:ZT H a t vs):ZT H' a t vs:=
 let⟨h,o,e⟩:=h;#[h,o,(k a).2 _ _ e]
mutual
theorem A5.conv {W':Wd} (hK:W'.K=W.K) (hf:∀i c a,W.fa i c a->W'.fa i c a) (k:AH H H'):∀{p:P} {v:V},A5 W H p v->A5 W' H' p v
 |.AG,_,h| .bl _,_,h| .int _,_,h| .str _,_,h=>by unfold A5 at h ⊢;exact h
 | .fn i c,_,h=>by
   unfold A5 at h ⊢;exact h.imp λa h=>#[hf _ _ _ h.1,h.2]
 | .box t ps,v,h=>by
   unfold A5 at h ⊢;rintro⟨a,vs,e,h1,h2⟩:h;exact#[a,vs,e,h1.mono k,BV.conv hK hf k h2]
 | .tup ps,v,h=>by
   unfold A5 at h ⊢;rintro⟨a,vs,e,h1,h2⟩:h;exact#[a,vs,e,hK▸k.dX h1,BV.conv hK hf k h2]
theorem BV.conv {W':Wd} (hK:W'.K=W.K) (hf:∀i c a,W.fa i c a->W'.fa i c a) (k:AH H H'):∀{ps:List P} {vs:List V},BV W H ps vs->BV W' H' ps vs
 |[],_,h=>by unfold BV at h ⊢;exact h
 | p::ps,vs,h=>by
   unfold BV at h ⊢;rintro⟨v,r,e,h1,h2⟩:h;exact#[v,r,e,A5.conv hK hf k h1,BV.conv hK hf k h2]
end
theorem A5.mono(k:AH H H')(h:A5 W H p v):A5 W H' p v:=A5.conv rfl (λ_ _ _ h=>h) k h
theorem Cw.mono(k:AH H H'){ps:List P}(h:Cw W H ps vs):Cw W H' ps vs:=Paired.EW h λ_ _ h=>h.mono k
theorem AH.of(h:Dc H H'):AH H H':=λa=>#[λ_ q=>h a _ q,λ_ _ q=>h a _ q]
def CQ(w:World):P->Int
 |.int i=>hashInt i
 |.str x=>hashStr w x
 |.tup ps=>reduceHash (Builtin.Tuple.tupleHashOf (ps.map λp=>hashStr w (p.BN.getD Str.empty)))
 |_=>0
def DX(a:Addr)(es:List DictEntry):HO:=.ext λh=>∃o,h.get? a=some o/\o.ExactDict/\o.data= .dict es.toArray es.length
def FC(W:Wd)(H:Hp)(q:P×P)(e:DictEntry):Prop:=e.hash=CQ W.w q.1/\(∃k,RelV k e.key/\A5 W H q.1 k)/\∃v,RelV v e.val/\A5 W H q.2 v
def fq(K:Frag)(a:Addr)(es:List DictEntry):Prop:=∃o,K.lookup a=some o/\o.ExactDict/\∃ep,o.data= .dict es.toArray ep
structure DD(W:Wd)(H:Hp)(a:Addr)(kvs:List (P×P))(es:List DictEntry):Prop where
 pr:Paired (FC W H) kvs es
 nd:(kvs.map (·.1)).Nodup
 ks:∀q∈kvs,keyOk q.1=true
 len:kvs.length<=big
 sm:(a == sysModules)=false
theorem DD.mono{kvs:List (P×P)}{es:List DictEntry}(k:AH H H')(h:DD W H a kvs es):DD W H' a kvs es:=
 #[Paired.EW h.pr λ_ _ z=>#[z.1,let⟨v,a,b⟩:=z.2.1;#[v,a,b.mono k],let⟨v,a,b⟩:=z.2.2;#[v,a,b.mono k]],h.nd,h.ks,h.len,h.sm]
def ZP(K:Frag)(H:Hp)(own bor:Addr->Prop)(o:Bool)(a:Addr)(vs:List V):Prop:=if o=true then H a=some (.lst vs)/\own a else(H a=some (.lst vs)/\bor a)\/∃ob,H a=some (.CK ob (.lst vs))
def TR(K:Frag)(H:Hp)(own bor:Addr->Prop)(o:Bool)(a:Addr)(es:List DictEntry):Prop:=if o=true then H a=some (DX a es)/\own a else(H a=some (DX a es)/\bor a)\/fq K a es
def TU(fs:List Fd)(vs:List V):Prop:=(fs.zip vs).Pairwise λp q=>p.1.XD=true->q.1.XD=true->p.2≠q.2
def Dk(W:Wd)(H:Hp)(own bor:Addr->Prop)(o:Bool):Fd->V->Prop
 |.p x,v=>A5 W H x v
 |.d kvs,v=>∃a es,v= .ref a/\TR W.K H own bor o a es/\DD W H a kvs es
noncomputable def AF(W:Wd)(H:Hp)(own bor:Addr->Prop):C->V->Prop
 |.p x,v=>A5 W H x v
 |.lst o ps,v=>∃a vs,v= .ref a/\ZP W.K H own bor o a vs/\Cw W H ps vs
 |.Bl o kvs,v=>∃a es,v= .ref a/\TR W.K H own bor o a es/\DD W H a kvs es
 |.obj o fs,v=>∃a dx vs,v= .ref a/\H a=some (.ins W.lc dx (W.fl.zip vs))/\(if o=true then own a else bor a)/\Paired (Dk W H own bor o) fs vs/\TU fs vs
def CB:HO->Bool
 |.Jn _=>true
 |_=>false
structure Ext(H H':Hp):Prop where
 but:∀b x,H b=some x->CB x=false->H' b=some x
 there:∀b x,H b=some x->∃y,H' b=some y
variable{H1 H2:Hp}{a:Addr}
theorem Ext.refl(H:Hp):Ext H H:=#[λ_ _ h _=>h,λ_ x h=>#[x,h]]
theorem Ext.trans(p:Ext H H1)(q:Ext H1 H2):Ext H H2:=#[λb x h n=>q.but b x (p.but b x h n) n,λb x h=>let⟨y,h⟩:=p.there b x h;q.there b y h]
theorem Ext.of(s:Dc H H'):Ext H H':=#[λb x h _=>s b x h,λb x h=>#[x,s b x h]]
theorem Ext.keep(p:Ext H H'):AH H H':=λa=>#[λ_ h=>p.but a _ h rfl,λ_ _ h=>p.but a _ h rfl]
theorem Ext.none(p:Ext H H')(h:H' a=none):H a=none:=by
 cases e:H a with
 |none=>rfl
 |some x=>rintro⟨y,z⟩:p.there a x e;rw[h]at z;cases z
theorem Ar(h:H a=none):Dc H (upd H a o):=λb x e=>by rw[A4 (AI e h)];exact e
def LJ(H:Hp)(q:Addr×Str):Prop:=∃(oc:Obj) (u:HO) (vs:Array Value) (t:Tok),H q.1=some (.CK oc u)/\oc.data= .fields vs/\vs[1]? =some (.str q.2 t)
variable{H H':Hp}
theorem LJ.keep{q:Addr×Str}(h:LJ H q)(k:AH H H'):LJ H' q:=let⟨oc,u,vs,t,e1,e2⟩:=h;#[oc,u,vs,t,(k _).2 _ _ e1,e2]
def Bx(W:Wd)(H:Hp):Prop:=(∀q∈W.tabs,∃ps:Array Value,H q.1=some (.Jn ps)/\TriplesOk ps.toList/\∀cv,codeAmong q.2.1 ps.toList=some cv->∃c,cv= .ref c/\LJ H (c,q.2.2))/\∀q∈W.NA,LJ H q
variable{W:Wd}
theorem Bx.keep(h:Bx W H)(k:AH H H')(n:∀b ps,H b=some (.Jn ps)->H' b=some (.Jn ps)):Bx W H':=
 ⟨λq hq=>
   let⟨ps,a,b,c⟩:=h.1 q hq
   #[ps,n _ ps a,b,λcv e=>let⟨d,e1,e2⟩:=c cv e;#[d,e1,e2.keep k]],λq hq=>(h.2 q hq).keep k⟩
theorem Bx.same(h:Bx W H)(s:Dc H H'):Bx W H':=h.keep (AH.of s) λ_ ps e=>s _ _ e
section
variable{own own' bor bor':Addr->Prop}
theorem Dk.mono{o:Bool}{d:Fd}(h:Dk W H own bor o d v)(k:AH H H')(ho:∀a x,own a->H a=some x->CB x=false->H' a=some x/\own' a)(hb:∀a x,bor a->H a=some x->CB x=false->H' a=some x/\bor' a):Dk W H' own' bor' o d v:=by
 cases d with
 |p x=>exact A5.mono k h
 |d kvs=>
   rintro⟨a,es,e,h1,h2⟩:h;refine#[a,es,e,?_,h2.mono k];unfold TR at h1 ⊢;cases o with
   |true=>exact ho a _ h1.2 h1.1 rfl
   |false=>exact h1.imp (λh=>hb a _ h.2 h.1 rfl) id
theorem Dk.borrow{o:Bool}{d:Fd}(h:Dk W H own bor o d v)(ho:∀a,own a->bor a):Dk W H own' bor false d v:=by
 cases d with
 |p x=>exact h
 |d kvs=>
   rintro⟨a,es,e,h1,h2⟩:h;refine#[a,es,e,?_,h2];cases o with
   |true=>exact .inl #[h1.1,ho a h1.2]
   |false=>exact h1
theorem AF.mono(h:AF W H own bor c v)(k:AH H H')(ho:∀a x,own a->H a=some x->CB x=false->H' a=some x/\own' a)(hb:∀a x,bor a->H a=some x->CB x=false->H' a=some x/\bor' a):AF W H' own' bor' c v:=by
 cases c with
 |p x=>exact A5.mono k h
 |obj o fs=>
   rintro⟨a,dx,vs,e,h1,h2,h3⟩:h
   have h4:H' a=some (.ins W.lc dx (W.fl.zip vs))/\if o=true then own' a else bor' a:=by
    cases o with
    |true=>exact ho a _ h2 h1 rfl
    |false=>exact hb a _ h2 h1 rfl
   exact#[a,dx,vs,e,h4.1,h4.2,Paired.EW h3.1 λ_ _ z=>z.mono k ho hb,h3.2]
 |lst o ps=>
   rintro⟨a,vs,e,h1,h2⟩:h;refine#[a,vs,e,?_,Cw.mono k h2];unfold ZP at h1 ⊢;cases o with
   |true=>exact ho a _ h1.2 h1.1 rfl
   |false=>exact h1.imp (λh=>hb a _ h.2 h.1 rfl) λ⟨ob,h⟩=>#[ob,(k a).2 _ _ h]
 |Bl o kvs=>
   rintro⟨a,es,e,h1,h2⟩:h;refine#[a,es,e,?_,h2.mono k];unfold TR at h1 ⊢;cases o with
   |true=>exact ho a _ h1.2 h1.1 rfl
   |false=>exact h1.imp (λh=>hb a _ h.2 h.1 rfl) id
theorem AF.ext(h:AF W H own bor c v)(e:Ext H H')(ho:∀a,own a->own' a)(hb:∀a,bor a->bor' a):AF W H' own' bor' c v:=
 h.mono e.keep (λa x p q n=>#[e.but a x q n,ho a p]) λa x p q n=>#[e.but a x q n,hb a p]
theorem AF.borrow{c:C}(h:AF W H own bor c v)(ho:∀a,own a->bor a):AF W H own' bor c.bor v:=by
 cases c with
 |p x=>exact h
 |obj o fs=>
   rintro⟨a,dx,vs,e,h1,h2,h3⟩:h;refine#[a,dx,vs,e,h1,?_,Paired.EW h3.1 λ_ _ z=>?_,h3.2]
   .cases o with
    |true=>exact ho a h2
    |false=>exact h2
   .exact z.borrow ho
 |lst o ps=>
   rintro⟨a,vs,e,h1,h2⟩:h;refine#[a,vs,e,?_,h2];cases o with
   |true=>exact .inl #[h1.1,ho a h1.2]
   |false=>exact h1
 |Bl o kvs=>
   rintro⟨a,es,e,h1,h2⟩:h;refine#[a,es,e,?_,h2];cases o with
   |true=>exact .inl #[h1.1,ho a h1.2]
   |false=>exact h1
abbrev Dj(W:Wd)(H:Hp):C->V->Prop:=AF W H (λ_=>True) (λ_=>True)
theorem AF.rd(h:AF W H own bor c v):Dj W H c v:=h.ext (Ext.refl H) (λ_ _=>trivial) λ_ _=>trivial
end
structure Kp(W:Wd)(B:Addr->Prop)(H:Hp)(U:Env)(Y:St):Prop where
 len:Y.length=U.length
 tb:Bx W H
 FN:∀a,B a->∃x,H a=some x
 get:∀i c,A8 U i=some c->∃v,Y[i]? =some (some v)/\AF W H B B c v
section
variable{B:Addr->Prop}{U:Env}{Y:St}
theorem Kp.ext(h:Kp W B H U Y)(e:Ext H H')(t:Bx W H'):Kp W B H' U Y:=
 #[h.len,t,λa b=>let⟨x,q⟩:=h.FN a b;e.there a x q,λi c q=>let⟨v,q1,q2⟩:=h.get i c q;#[v,q1,q2.ext e (λ_ z=>z) λ_ z=>z]]
abbrev Rp(α β:Type):=(Addr->Prop)->Hp->Hp->α->β->Prop
section
variable (W:Wd){α β:Type}
def D2(rep:Rp α β)(B:Addr->Prop)(H:Hp)(r:Res α)(Q:β->Hp->Prop):Prop:=match r with
 |.stuck=>False
 |.ok a=>∀b H',Ext H H'->Bx W H'->rep B H H' a b->Q b H'
def tG(rep:Rp α β)(F:Env->Res α):St->Hp->(β->Hp->Prop)->Prop:=λY H Q=>∃U B,Kp W B H U Y/\D2 W rep B H (F U) Q
def rV:Rp C V:=λB H H' c v=>AF W H' (λa=>H a=none) B c v
def rB:Rp Bool Bool:=λ_ _ _ b b'=>b=b'
def BB(H:Hp)(own:Nat->Addr->Prop)(bor:Addr->Prop):Nat->List C->List V->Prop
 |_,[],vs=>vs=[]
 |j,c::cs,vs=>∃v r,vs=v::r/\AF W H (own j) bor c v/\BB H own bor (j+1) cs r
def NK:Rp (List C) (List V):=λB H H' cs vs=>∃O:Addr->Nat,BB W H' (λj a=>H a=none/\O a=j) B 0 cs vs
def Uj:Rp (List P) (List V):=λ_ _ H' ps vs=>Cw W H' ps vs
end
variable{α β γ δ:Type}
def QO(rep:Rp α β):Prop:=∀B H H1 H' a b,Ext H H1->rep B H1 H' a b->rep B H H' a b
theorem Au:QO (rV W):=λ_ _ _ _ _ _ e h=>h.ext (Ext.refl _) (λ_=>e.none) λ_ z=>z
theorem Eh:QO rB:=λ_ _ _ _ _ _ _ h=>h
theorem JE:QO (Uj W):=λ_ _ _ _ _ _ _ h=>h
theorem BB.imp{own own':Nat->Addr->Prop}{bor bor':Addr->Prop}(e:Ext H H')(ho:∀j a,own j a->own' j a)(hb:∀a,bor a->bor' a):∀{j:Nat} {cs:List C} {vs:List V},BB W H own bor j cs vs->BB W H' own' bor' j cs vs
 |_,[],_,h=>h
 |j,_::_,_,⟨v,r,q,h1,h2⟩=>#[v,r,q,h1.ext e (ho j) hb,BB.imp e ho hb h2]
variable{rep:Rp α β}
theorem D2.later(an:QO rep){r:Res α}{Q:β->Hp->Prop}(h:D2 W rep B H r Q)(e:Ext H H1):D2 W rep B H1 r Q:=by
 cases r with
 |stuck=>exact h
 |ok a=>exact λb H' e1 t1 r1=>h b H' (e.trans e1) t1 (an _ _ _ _ _ _ e r1)
variable{rA:Rp α β}
theorem D2.step{rep:Rp γ δ}(an:QO rep){r:Res α}{G:α->Res γ}{Q:δ->Hp->Prop}{K:β->Hp->Prop}(h:D2 W rep B H (r.bind G) Q)
 (k:∀a b H1,r= .ok a->Ext H H1->Bx W H1->rA B H H1 a b->D2 W rep B H1 (G a) Q->K b H1):D2 W rA B H r K:=by
 cases r with
 |stuck=>exact h
 |ok a=>exact λb H1 e1 t1 r1=>k a b H1 rfl e1 t1 r1 (D2.later an (r:=G a) h e1)
theorem D2.Dm{rep:Rp γ δ}{r:Res α}{G:α->Res γ}{Q:δ->Hp->Prop}{K:β->Hp->Prop}(h:D2 W rep B H (r.bind G) Q)(f:Ext H H1)
 (k:∀a b H2,Ext H1 H2->Bx W H2->rA B H1 H2 a b->D2 W rep B H (G a) Q->K b H2):D2 W rA B H1 r K:=by
 cases r with
 |stuck=>exact h
 |ok a=>exact λb H2 e1 t1 r1=>k a b H2 e1 t1 r1 h
theorem D2.imp{r:Res α}{Q Q':β->Hp->Prop}(h:D2 W rep B H r Q)(k:∀b H',Q b H'->Q' b H'):D2 W rep B H r Q':=by
 cases r with
 |stuck=>exact h
 |ok a=>exact λb H1 e1 t1 r1=>k _ _ (h b H1 e1 t1 r1)
theorem D2.of{o:Option α}{Q:β->Hp->Prop}(h:D2 W rep B H (Res.of o) Q):∃a,o=some a/\D2 W rep B H (.ok a) Q:=by
 cases o with
 |none=>exact h.elim
 |some a=>exact#[a,rfl,h]
theorem D2.BP{o:Option γ}{G:γ->Res α}{Q:β->Hp->Prop}(h:D2 W rep B H ((Res.of o).bind G) Q):∃a,o=some a/\D2 W rep B H (G a) Q:=by
 cases o with
 |none=>exact h.elim
 |some a=>exact#[a,rfl,h]
section
variable (W:Wd)
def Cc(H:Hp)(c:C)(Q:VK):Prop:=∀v H',Dc H H'->AF W H' (λa=>H a=none) (λ_=>False) c v->Q v H'
def AV(g:C->C->Option C):R2:=λx y H Q=>∃c1 c2 c,Dj W H c1 x/\Dj W H c2 y/\g c1 c2=some c/\Cc W H c Q
def BZ(g:C->Option C):V->Hp->VK->Prop:=λx H Q=>∃c1 c,Dj W H c1 x/\g c1=some c/\Cc W H c Q
end
theorem Cc.plain{Q:VK}(q:Cc W H (.p x) Q)(r:A5 W H x v):Q v H:=q v H (Dc.refl H) r
variable{vs:List V}
theorem Cc.list{ps:List P}{Q:VK}(q:Cc W H (.lst true ps) Q)(r:Cw W H ps vs)(p:Addr)(hp:H p=none):Q (.ref p) (upd H p (.lst vs)):=
 q (.ref p) _ (Ar hp) #[p,vs,rfl,#[A6,hp],r.mono (AH.of (Ar hp))]
theorem Cc.tup{ps:List P}{Q:VK}(q:Cc W H (.p (.tup ps)) Q)(r:Cw W H ps vs)(p:Addr)(hp:H p=none):Q (.ref p) (upd H p (.tup vs)):=
 q (.ref p) _ (Ar hp) (A9.mpr #[p,vs,rfl,D1.of A6,r.mono (AH.of (Ar hp))])
theorem D2.new{Q:VK}(h:D2 W (rV W) B H (.ok c) Q)(t:Bx W H):Cc W H c Q:=λv H' s r=>h v H' (.of s) (t.same s) (r.ext (Ext.refl _) (λ_ z=>z) λ_ z=>z.elim)
variable{F G:Env->Res C}{Q:VK}
theorem U0{g:C->Option C}(h:tG W (rV W) (λU=>(F U).bind λx=>Res.of (g x)) Y H Q):tG W (rV W) F Y H λx H1=>BZ W g x H1 Q:=by
 rintro⟨U,B,R,hA⟩:h;refine#[U,B,R,hA.step Au λc v H1 _ e1 t1 r1 h1=>?_];rintro⟨r,er,h1⟩:h1.of;exact#[c,r,r1.rd,er,h1.new t1]
theorem Jo{g:C->C->Option C}(h:tG W (rV W) (λU=>(F U).bind λx=>(G U).bind λy=>Res.of (g x y)) Y H Q):Vc (AV W g) (tG W (rV W) F) (tG W (rV W) G) Y H Q:=by
 rintro⟨U,B,R,hA⟩:h;refine#[U,B,R,hA.step Au λc v H1 _ e1 t1 r1 h1=>#[U,B,R.ext e1 t1,h1.step Au λd u H2 _ e2 t2 r2 h2=>?_]];rintro⟨r,er,h2⟩:h2.of;exact#[c,d,r,r1.rd.ext e2 (λ_ z=>z) λ_ z=>z,r2.rd,er,h2.new t2]
variable{Q':List V->Hp->Prop}
theorem LU(h:tG W (NK W) (λ_=>.ok []) Y H Q'):O5 Y H Q':=by
 rintro⟨U,B,R,hA⟩:h;exact hA [] H (Ext.refl H) R.tb #[λ_=>0,rfl]
theorem BB.shift{own:Nat->Addr->Prop}{bor:Addr->Prop}:∀{j:Nat} {cs:List C} {vs:List V},BB W H (λj=>own (j + 1)) bor j cs vs->BB W H own bor (j + 1) cs vs
 |_,[],_,h=>h
 |_,_::_,_,⟨v,r,q,h1,h2⟩=>#[v,r,q,h1,BB.shift h2]
open Classical in
theorem Ga {Gs:Env->Res (List C)} (h:tG W (NK W) (λU=>(F U).bind λc=>(Gs U).bind λcs=>.ok (c::cs)) Y H Q'):Jr (tG W (rV W) F) (tG W (NK W) Gs) Y H Q':=by
 rintro⟨U,B,R,hA⟩:h;refine#[U,B,R,hA.Dm (Ext.refl H) λc v H1 e1 t1 r1 h1=>#[U,B,R.ext e1 t1,h1.Dm e1 λcs vs H2 e2 t2 ⟨O,r2⟩ h2=>?_]];refine h2 (v::vs) H2 (e1.trans e2) t2 #[λa=>if H1 a=none then O a+1 else 0,v,vs,rfl,?_,BB.shift (r2.imp (Ext.refl _) (λj a z=>#[e1.none z.1,?_]) λ_ z=>z)]
 .refine AF.mono r1 e2.keep (λa x p q n=>#[e2.but a x q n,p,?_]) λa x p q n=>#[e2.but a x q n,p]
  exact iN λz=>by rw[q]at z;cases z
 .show(if H1 a=none then O a+1 else 0)=j+1;rw[iP z.1,z.2]
end
end Nv
namespace Nv
open PySem L2 PyProof.Rows
variable{X:Cx}{W:Wd}
theorem Ai{t t':TE}(h:PE X e t)(k:∀Y H Q,t' Y H Q->t Y H Q):PE X e t':=λp0 s Y H Q I z=>h p0 s Y H Q I (k Y H Q z)
theorem Gn{t t':TT}(h:PT X e t)(k:∀Y H Q,t' Y H Q->t Y H Q):PT X e t':=λp0 s Y H Q I z=>h p0 s Y H Q I (k Y H Q z)
theorem Iy{t t':TA}(h:PA X e t)(k:∀Y H Q,t' Y H Q->t Y H Q):PA X e t':=λpos p0 s Y H Q I z=>h pos p0 s Y H Q I (k Y H Q z)
variable{t':TS}
theorem C0{e:Stmt}{t:TS}(h:PS X e t)(k:∀D Y H,t' D Y H->t D Y H):PS X e t':=λp0 s Y H D I z=>h p0 s Y H D I (k D Y H z)
theorem M7{e:List Stmt}{t:TS}(h:NJ X e t)(k:∀D Y H,t' D Y H->t D Y H):NJ X e t':=λp0 s Y H D I z=>h p0 s Y H D I (k D Y H z)
def Xv(t:TE):TE:=λY H Q=>t Y H λv H1=>Q v H1\/∃a xs,v= .ref a/\H1 a=some (.lst xs)/\∀o,Q v (upd H1 a (.CK o (.lst xs)))
theorem OP{t:TE}(h:PE X e t):PE X e (Xv t):=by
 intro p0 s Y H Q I z;refine AS (h p0 s Y H _ I z) λw s1 ⟨v,H1,I1,r,q⟩=>?_
 rcases q with q|⟨a,xs,e1,e2,q⟩
 .exact#[v,H1,I1,r,q]
 .have Aj:=I1.Aj a _ e2;have hok':=Aj;rintro⟨_,its,n,_,ho⟩:hok';exact#[v,upd H1 a (.CK _ (.lst xs)),I1.write (x:=a) (e:=a) (t':=s1.toks) (by rw[e2];trivial) (.inl rfl) (λb u hb q=>q) #[_,ho] #[ho,Aj],r,q _]
variable{Y:L2.St}{H:Hp}{F:Env->Res C}
variable{H1:Hp}
theorem IV{u:HO}(e:Ext H H1)(hn:H a=none):Ext H (upd H1 a u'):=
 #[λb x h n=>by rw[A4 (AI h hn)];exact e.but b x h n,λb x h=>by rw[A4 (AI h hn)];exact e.there b x h]
theorem BR{u:HO}(ha:H1 a=some u)(hu:∀xs,u≠.tup xs)(hv:∀o w,u≠.CK o w):AH H1 (upd H1 a u'):=λc=>by
 by_cases hc:c=a
 .subst hc;exact#[λxs q=>(by rw[ha]at q;cases q;exact absurd rfl (hu _)),λo w q=>(by rw[ha]at q;cases q;exact absurd rfl (hv _ _))]
 .rw[A4 hc];exact#[λ_ q=>q,λ_ _ q=>q]
theorem Ih{u:HO}(t:Bx W H1)(ha:H1 a=some u)(hu:∀xs,u≠.tup xs)(hv:∀o w,u≠.CK o w)(hn:CB u=false):Bx W (upd H1 a u'):=
 t.keep (BR ha hu hv) λb ps e=>by rw[A4 λz=>by rw[z,ha]at e;cases e;cases hn];exact e
variable{Q':List V->Hp->Prop}
theorem V5(h:tG W (Uj W) (λ_=>.ok []) Y H Q'):O5 Y H Q':=by
 rintro⟨U,B,R,hA⟩:h;exact hA [] H (Ext.refl H) R.tb .nil
variable{Gs:Env->Res (List P)}
theorem D2.UK{B:Addr->Prop}(R:Kp W B H1 U Y)(rx:A5 W H1 x v)(h:D2 W (Uj W) B H1 ((Gs U).bind λxs=>.ok (x::xs)) Q'):tG W (Uj W) Gs Y H1 λvs H2=>Q' (v::vs) H2:=
 #[U,B,R,h.Dm (Ext.refl _) λxs vs H2 e2 t2 r2 h2=>h2 (v::vs) H2 e2 t2 (.cons (rx.mono e2.keep) r2)]
theorem UE{B:Addr->Prop}{c:C}{x:P}(h:c.CK=some x)(r:rV W B H H1 c v):A5 W H1 x v\/∃a xs,v= .ref a/\H1 a=some (.lst xs)/\H a=none/\∀o,A5 W (upd H1 a (.CK o (.lst xs))) x v:=by
 cases c with
 |p y=>cases h;exact .inl r
 |lst o ps=>
   cases o with
   |false=>cases h
   |true=>
     cases h;rintro⟨a,vs,rfl,⟨k1,k2⟩,k3⟩:r;exact .inr #[a,vs,rfl,k1,k2,λo=>CN.mpr #[a,vs,rfl,#[rfl,o,A6],k3.mono (BR k1 (λ_ z=>nomatch z) λ_ _ z=>nomatch z)]]
 |_=>cases h
theorem Rf(h:tG W (Uj W) (λU=>(F U).bind λc=>(Res.of c.CK).bind λx=>(Gs U).bind λxs=>.ok (x::xs)) Y H Q'):Jr (Xv (tG W (rV W) F)) (tG W (Uj W) Gs) Y H Q':=by
 rintro⟨U,B,R,hA⟩:h;refine#[U,B,R,hA.Dm (Ext.refl H) λc v H1 e1 t1 r1 h1=>?_];rintro⟨x,ex,h1⟩:h1.BP;rcases UE ex r1 with r|⟨a,xs,rfl,ea,hn,hr⟩
 .exact .inl (D2.UK (R.ext e1 t1) r (h1.later JE e1))
 .refine .inr #[a,xs,rfl,ea,λo=>?_];have e2:Ext H (upd H1 a (.CK o (.lst xs))):=IV (u:=.lst xs) e1 hn;exact D2.UK (R.ext e2 (Ih t1 ea (λ_ z=>nomatch z) (λ_ _ z=>nomatch z) rfl)) (hr o) (h1.later JE e2)
theorem Yr{F G:Env->Res Bool}{Q:Bool->Hp->Prop}(h:tG W rB (λU=>(F U).bind λk=>if k then G U else .ok false) Y H Q):Yx (tG W rB F) (tG W rB G) Y H Q:=by
 rintro⟨U,B,R,hA⟩:h;refine#[U,B,R,hA.step Eh λk k' H1 _ e1 t1 r1 h1=>?_];cases r1;cases k with
 |true=>exact#[U,B,R.ext e1 t1,h1]
 |false=>exact h1 false H1 (Ext.refl _) t1 rfl
theorem aA{F G:Env->Res Bool}{Q:Bool->Hp->Prop}(h:tG W rB (λU=>(F U).bind λk=>if k then .ok true else G U) Y H Q):cL (tG W rB F) (tG W rB G) Y H Q:=by
 rintro⟨U,B,R,hA⟩:h;refine#[U,B,R,hA.step Eh λk k' H1 _ e1 t1 r1 h1=>?_];cases r1;cases k with
 |false=>exact#[U,B,R.ext e1 t1,h1]
 |true=>exact h1 true H1 (Ext.refl _) t1 rfl
theorem Yn{F:Env->Res Bool}{Q:Bool->Hp->Prop}(h:tG W rB (λU=>(F U).bind λk=>.ok (!k)) Y H Q):Yu (tG W rB F) Y H Q:=by
 rintro⟨U,B,R,hA⟩:h;refine#[U,B,R,hA.step Eh λk k' H1 _ e1 t1 r1 h1=>?_];cases r1;exact h1 _ H1 (Ext.refl _) t1 rfl
theorem Fz{c:C}{k:Bool}(h:c.EL =some k):c= .p (.bl k):=by
 cases c with
 |p x=>cases x<;>first|(cases h;rfl)|cases h
 |_=>cases h
theorem JD{B:Addr->Prop}{k:Bool}:rV W B H H1 (.p (.bl k)) (.bl k):=(Cz (W:=W) (H:=H1)).mpr rfl
theorem Eg{own bor:Addr->Prop}{k:Bool}(h:AF W H1 own bor (.p (.bl k)) v):v= .bl k:=(Cz (W:=W) (H:=H1)).mp h
theorem V9{F G:Env->Res C}{Q:VK}(h:tG W (rV W) (λU=>(F U).bind λc=>(Res.of c.EL).bind λk=>if k then G U else .ok (.p (.bl false))) Y H Q):Ua (tG W (rV W) F) (tG W (rV W) G) Y H Q:=by
 rintro⟨U,B,R,hA⟩:h;refine#[U,B,R,hA.step Au λc v H1 _ e1 t1 r1 h1=>?_];rintro⟨k,ek,h2⟩:h1.BP;clear h1;cases Fz ek;refine#[k,Eg r1,?_];cases k with
 |true=>exact#[U,B,R.ext e1 t1,h2]
 |false=>exact h2 _ H1 (Ext.refl _) t1 JD
theorem Ym{F G:Env->Res C}{Q:VK}(h:tG W (rV W) (λU=>(F U).bind λc=>(Res.of c.EL).bind λk=>if k then .ok (.p (.bl true))else G U) Y H Q):Yt (tG W (rV W) F) (tG W (rV W) G) Y H Q:=by
 rintro⟨U,B,R,hA⟩:h;refine#[U,B,R,hA.step Au λc v H1 _ e1 t1 r1 h1=>?_];rintro⟨k,ek,h2⟩:h1.BP;clear h1;cases Fz ek;refine#[k,Eg r1,?_];cases k with
 |false=>exact#[U,B,R.ext e1 t1,h2]
 |true=>exact h2 _ H1 (Ext.refl _) t1 JD
theorem V4{Q:VK}(h:tG W (rV W) (λU=>(F U).bind λc=>(Res.of c.EL).bind λk=>.ok (.p (.bl (!k)))) Y H Q):U7 (tG W (rV W) F) Y H Q:=by
 rintro⟨U,B,R,hA⟩:h;refine#[U,B,R,hA.step Au λc v H1 _ e1 t1 r1 h1=>?_];rintro⟨k,ek,h2⟩:h1.BP;clear h1;cases Fz ek;exact#[k,Eg r1,h2 _ H1 (Ext.refl _) t1 JD]
theorem Yp{B:Env->Res Bool}{F G:Env->Res C}{Q:VK}(h:tG W (rV W) (λU=>(B U).bind λk=>if k then F U else G U) Y H Q):cO (tG W rB B) (tG W (rV W) F) (tG W (rV W) G) Y H Q:=by
 rintro⟨U,Bo,R,hA⟩:h;refine#[U,Bo,R,hA.step Au λk k' H1 _ e1 t1 r1 h1=>?_];cases r1;cases k with
 |true=>exact#[U,Bo,R.ext e1 t1,h1]
 |false=>exact#[U,Bo,R.ext e1 t1,h1]
theorem U3{f g:C->C->Option C}{F1 F2 F3:Env->Res C}{Q:VK}(h:tG W (rV W) (λU=>(F1 U).bind λx=>(F2 U).bind λy=>(Res.of ((f x y).bind C.EL)).bind λk=>if k then(F3 U).bind λz=>Res.of (g y z)else .ok (.p (.bl false))) Y H Q):
 Ky (AV W f) (AV W g) (tG W (rV W) F1) (tG W (rV W) F2) (tG W (rV W) F3) Y H Q:=by
 rintro⟨U,B,R,hA⟩:h;refine#[U,B,R,hA.step Au λc v H1 _ e1 t1 r1 h1=>#[U,B,R.ext e1 t1,h1.step Au λd u H2 _ e2 t2 r2 h2=>?_]];rintro⟨k,ek,h5⟩:h2.BP;clear h2;rintro⟨c',ec,ek⟩:Option.bind_eq_some_iff.mp ek;cases Fz ek;refine#[c,d,_,r1.rd.ext e2 (λ_ z=>z) λ_ z=>z,r2.rd,ec,λw H3 s3 r3=>#[k,Eg r3,?_]];have e3:=Ext.of s3;have t3:=t2.same s3;cases k with
 |true=>
   show tG W (rV W) F3 Y H3 _;refine#[U,B,(R.ext (e1.trans e2) t2).ext e3 t3,(h5.later Au e3).step Au λz w H4 _ e4 t4 r4 h4=>?_];rintro⟨r,er,h4⟩:h4.of;exact#[d,z,r,r2.rd.ext (e3.trans e4) (λ_ z=>z) λ_ z=>z,r4.rd,er,h4.new t4]
 |false=>exact h5 _ H3 e3 t3 JD
variable{α:Type}
theorem or_some{x y:Option α}{z:α}(h:(x <|> y)=some z):x=some z\/y=some z:=by
 cases x with
 |none=>exact .inr h
 |some a=>exact .inl h
theorem Bw:big<=sizeLine:=by decide
theorem Ab{β:Type}{x:Option α}{f:α->Option β}{b:β}(h:x.bind f=some b):∃a,x=some a/\f a=some b:=Option.bind_eq_some_iff.mp h
theorem AU{β:Type}{x:Option α}{f:α->β}{b:β}(h:x.map f=some b):∃a,x=some a/\f a=b:=oM h
theorem C.BO{c:C}{x:P}(h:c.H9 =some x):c= .p x:=by cases c<;>cases h;rfl
theorem C.AW{c:C}{i:Int}(h:c.int? =some i):c= .p (.int i):=let⟨_,h1,h2⟩:=Ab h;by rw[C.BO h1,P.AW h2]
theorem C.Bt{c:C}{i:Str}(h:c.BN =some i):c= .p (.str i):=let⟨_,h1,h2⟩:=Ab h;by rw[C.BO h1,P.Bt h2]
theorem C.Bs{c:C}{i:List P}(h:c.CL =some i):c= .p (.tup i):=let⟨_,h1,h2⟩:=Ab h;by rw[C.BO h1,P.Bs h2]
section
variable{v:V}{own bor:Addr->Prop}
theorem GW(h:AF W H own bor (.p x) v):A5 W H x v:=h
theorem AZ(h:AF W H own bor (.p (.int i)) v):v= .int i:=Aa.mp (GW h)
theorem BI(h:AF W H own bor (.p (.str i)) v):v= .str i:=AJ.mp (GW h)
theorem Gj(h:AF W H own bor (.p .AG) v):v= .AG:=Dn.mp (GW h)
theorem CH{ps:List P}(h:AF W H own bor (.p (.tup ps)) v):∃a vs,v= .ref a/\D1 W.K H a vs/\Cw W H ps vs:=A9.mp (GW h)
theorem SD{x:P}{ps:List P}(h:x.Pr =some ps):x= .box 0 ps:=by
 rintro⟨r,h1,h2⟩:Ab h;split at h2
 .rename_i h0;cases h2;rw[P.Qt h1,h0]
 .cases h2
theorem Bn{c:C}{ps:List P}(e:c.FH =some ps)(h:AF W H own bor c v):∃a vs,v= .ref a/\Rd H a (.lst vs)/\Cw W H ps vs:=by
 cases c with
 |p x=>
   cases SD e;rintro⟨a,vs,e1,e2,e3⟩:CN.mp (GW h);rintro⟨_,o,e2⟩:e2;exact#[a,vs,e1,.inr #[o,e2],e3]
 |lst o qs=>
   cases e;rintro⟨a,vs,e1,e2,e3⟩:h;refine#[a,vs,e1,?_,e3];cases o with
   |true=>exact .inl e2.1
   |false=>exact e2.imp (·.1) id
 |Bl o kvs=>cases e
 |obj _ _=>cases e
theorem ES{c:C}{ps:List P}(e:c.seq? =some ps)(h:AF W H own bor c v):∃a vs,v= .ref a/\(DO W.K H a vs\/D1 W.K H a vs)/\Cw W H ps vs:=by
 rcases or_some e with e|e
 .obtain⟨a,vs,e1,e2,e3⟩:=Bn e h;exact#[a,vs,e1,.inl (.inl e2),e3]
 .cases C.Bs e;rintro⟨a,vs,e1,e2,e3⟩:CH h;exact#[a,vs,e1,.inr e2,e3]
theorem Cc.bl{b:Bool}{Q:VK}(q:Cc W H (bC b) Q):Q (.bl b) H:=q.plain (Cz.mpr rfl)
theorem Cc.int{Q:VK}(q:Cc W H (.p (.int b)) Q):Q (.int b) H:=q.plain (Aa.mpr rfl)
theorem Cc.str{Q:VK}(q:Cc W H (.p (.str b)) Q):Q (.str b) H:=q.plain (AJ.mpr rfl)
end
theorem BG.or{f:Value->Value->Sem Value}{g g':C->C->Option C}(h:BG X f (AV W g))(h':BG X f (AV W g')):BG X f (AV W λa b=>g a b <|> g' a b):=by
 rintro p0 s Y H x y v u Q I rx ry ⟨c1,c2,c,h1,h2,e,q⟩
 rcases or_some e with z|z
 .exact h p0 s Y H x y v u Q I rx ry #[c1,c2,c,h1,h2,z,q]
 .exact h' p0 s Y H x y v u Q I rx ry #[c1,c2,c,h1,h2,z,q]
theorem EU{f:Value->Value->Sem Value}{g:Int->Int->Option Int}{r:R2}(ho:BG X f r)(hr:∀i j k H Q,g i j=some k->Q (.int k) H->r (.int i) (.int j) H Q):BG X f (AV W (Aw g)):=by
 rintro p0 s Y H x y v u Q I rx ry ⟨c1,c2,c,h1,h2,e,q⟩
 rintro⟨i,ei,e⟩:Ab e;rintro⟨j,ej,e⟩:Ab e;rintro⟨k,ek,rfl⟩:AU e;cases C.AW ei;cases C.AW ej;cases AZ h1;cases AZ h2;exact ho p0 s Y H _ _ v u Q I rx ry (hr i j k H Q ek q.int)
theorem A3{c:Prop}[Decidable c]{a b:α}(h:(if c then some a else none)=some b):c/\a=b:=by
 split at h
 .exact#[‹_›,Option.some.inj h]
 .cases h
theorem Z1:BG X (binaryOp .Sub) (AV W (Aw ER)):=EU W8 λi j k H Q e q=>by cases e;exact#[i,j,rfl,rfl,q]
theorem Z5:BG X (binaryOp .Mod) (AV W (Aw Dt)):=EU Wb λi j k H Q e q=>by rintro⟨h,rfl⟩:A3 e;exact#[i,j,rfl,rfl,h,q]
theorem Wk:BG X (binaryOp .FloorDiv) (AV W (Aw Ez)):=EU S8 λi j k H Q e q=>by rintro⟨h,rfl⟩:A3 e;exact#[i,j,rfl,rfl,h,q]
theorem Z2:BG X (binaryOp .Pow) (AV W (Aw JF)):=EU W9 λi j k H Q e q=>by rintro⟨h,rfl⟩:A3 e;exact#[i,j,rfl,rfl,#[h.1,by lia,h.2.2],q]
theorem Z7(hK:W.K=X.K):BG X (binaryOp .Add) (AV W Ad):=by
 refine BG.or (EU Wh λi j k H Q e q=>by cases e;exact#[i,j,rfl,rfl,q]) (BG.or ?_ ?_)
 .rintro p0 s Y H x y v u Q I rx ry ⟨c1,c2,c,h1,h2,e,q⟩
  rintro⟨i,ei,e⟩:Ab e;rintro⟨j,ej,e⟩:Ab e;rintro⟨hl,rfl⟩:A3 e;cases C.Bt ei;cases C.Bt ej;cases BI h1;cases BI h2;exact KQ p0 s Y H _ _ v u Q I rx ry #[i,j,rfl,rfl,Nat.le_trans hl Bw,q.str]
 .rintro p0 s Y H x y v u Q I rx ry ⟨c1,c2,c,h1,h2,e,q⟩
  rintro⟨i,ei,e⟩:Ab e;rintro⟨j,ej,e⟩:Ab e;rintro⟨z,ez,rfl⟩:AU e;rintro⟨hl,rfl⟩:A3 ez;rintro⟨a,vs,rfl,s1,r1⟩:Bn ei h1;rintro⟨b,ws,rfl,s2,r2⟩:Bn ej h2;refine We p0 s Y H _ _ v u Q I rx ry #[a,b,vs,ws,rfl,rfl,s1,s2,?_,q.list (Pd.append r1 r2)];rw[<-Paired.length r1,<-Paired.length r2,<-lA];exact Nat.le_trans hl Bw
end Nv
namespace Nv
open PySem
structure Ct where
 N:List Str
 sc:Scope
 fns:List (Str×Nat)
 NN:List (Str×Nat)
 NM:List (Str×Nat)
 cls:List (Str×Nat)
 fld:List Str
 gl:List (Str×C)
 df:Bool
 Nd:List (Pos×Nat)
 lt:Nat->Nat->T->Bool
def Gu(x:Str):Bool:=!(x == ("__debug__":Str)) && !(x == ("__classdict__":Str)) && decide (x≠"__name__")
def seen:Option NameKind->Bool
 |some .local=>true
 |some .cell=>true
 |some .free=>true
 |_=>false
def Ct.slot(ct:Ct)(x:Str):Option Nat:=if Gu x && seen (ct.sc.names.lookup x)then ct.N.idxOf? x else none
def bound(df:Bool):Option NameKind->Bool
 |some .local=>true
 |some .cell=>df
 |_=>false
def Ct.Cy(ct:Ct)(x:Str):Option Nat:=if Gu x && bound ct.df (ct.sc.names.lookup x)then ct.N.idxOf? x else none
def Ct.glob(ct:Ct)(x:Str):Bool:=Gu x && decide (ct.sc.names.lookup x=some .globalImplicit)
def Ct.name(ct:Ct)(x:Str):Option T:=match ct.slot x with
 |some i=>some (.var i)
 |none=>if ct.glob x then((ct.gl.lookup x).map .cst <|> (ct.fns.lookup x).map λn=>.cst (.p (.fn n [])))else none
def J6:List Str:=["len","list","tuple","all","abs","int","bool","str","range","enumerate","reversed","set","isinstance","any","zip","max","min"]
def Ct.own(ct:Ct)(x:Str):Bool:=ct.glob x && J6.contains x && (ct.gl.lookup x).isNone && (ct.fns.lookup x).isNone && (ct.cls.lookup x).isNone
def bB:Operator->Option (C->C->Option C)
 |.Add=>some Ad| .Sub=>some (Aw ER)| .Mult=>some mulC| .Mod=>some (Aw Dt)| .FloorDiv=>some (Aw Ez)| .Pow=>some (Aw JF)|_=>none
def Nh:CmpOp->C->C->Option C
 |.Eq=>Bd| .NotEq=>Em| .Lt=>L4| .LtE=>L8| .Gt=>Nr| .GtE=>Zu| .Is=>Ft| .IsNot=>E5| .In=>Nn| .NotIn=>JN
def Ti(x:T):List CmpOp->List T->Option T
 |[o],[y]=>some (.A1 (Nh o) x y)
 |[o1,o2],[y,z]=>some (.Tn (Nh o1) (Nh o2) x y z)
 |_,_=>none
def GX:Expr->Option Str
 |.Name x _=>some x
 |_=>none
def Uq:Expr->Bool
 |.Name _ _=>true
 |.Attribute e _ _=>(GX e).isSome
 |_=>false
def Tj:Expr->Option (Expr×List Expr×List Keyword×Pos)
 |.Call f as k p=>some (f,as,k,p)
 |_=>none
def QB:Expr->Option (Expr×Str×Pos)
 |.Attribute e m p=>some (e,m,p)
 |_=>none
def WC:Expr->Option (Arguments×Expr×Scope×Pos)
 |.Lambda a b sc p=>some (a,b,sc,p)
 |_=>none
def IJ:Expr->Bool
 |.Slice _ _ _ _=>true
 |_=>false
def Cb:Expr->Bool
 |.Tuple _ _ _=>true
 |_=>false
def BF:Expr->Bool
 |.ListComp _ _ _ _=>true
 |.SetComp _ _ _ _=>true
 |.DictComp _ _ _ _ _=>true
 |_=>false
def one{α:Type}:List α->Option α
 |[a]=>some a
 |_=>none
def two{α:Type}:List α->Option (α×α)
 |[a,b]=>some (a,b)
 |_=>none
def Ct.DW(ct:Ct)(x:Str)(e:Expr):Option Expr:=(Tj e).bind λq=>(GX q.1).bind λy=>if y=x/\ct.own y=true/\q.2.2.1.isEmpty=true then one q.2.1 else none
def Ct.call2(ct:Ct)(x:Str)(e:Expr):Option (Expr×Expr):=(Tj e).bind λq=>(GX q.1).bind λy=>if y=x/\ct.own y=true/\q.2.2.1.isEmpty=true then two q.2.1 else none
noncomputable def special(ct:Ct)(x:Str)(e:Expr):Option (C->Option C):=
 if ct.own x && decide (x="list") && (ct.DW "reversed" e).isSome then some Pp else if ct.own x && decide (x="list") && (ct.DW "range" e).isSome then some En
 else if ct.own x && decide (x="len") && (ct.DW "set" e).isSome then some L6 else none
def tyName(x:Str):Option Ty:=
 if x="int" then some .int else if x="bool" then some .bool else if x="str" then some .str else if x="tuple" then some .tuple else if x="list" then some .list else none
def aj(x:Str):Option (C->Option C):=
 if x="len" then some AD else if x="list" then some CP else if x="tuple" then some Jm else if x="all" then some Fc else if x="any" then some anyC
 else if x="abs" then some (Hc TJ)else none
def JV(ct:Ct):List Expr->Option (List Nat)
 |[]=>some []
 |e::es=>((GX e).bind ct.Cy).bind λi=>(JV ct es).map λis=>i::is
def Xz(ct:Ct):Expr->Option Tg
 |.Name x _=>(ct.Cy x).map .nm
 |.Tuple es _ _=>(JV ct es).map .tup
 |_=>none
noncomputable def Ct.block(ct:Ct)(sc:Scope):Ct×List (Option Nat):=
 let own:=(sc.names.filter λq=>q.2 == .local).map (·.1)
 let free:=(sc.names.filter λq=>q.2 == .free).map (·.1)
 ({ct with N:=own++free,sc:=sc,df:=false,Nd:=[]},own.map (λ_=>none)++free.map λx=>ct.N.idxOf? x)
noncomputable def Qy(N0:List Str)(sc0:Scope)(N:List Str)(scope:Scope)(fr:List (Option Nat)):Bool:=
 (scope.kind == .function) && scope.names.all (λy=>y.2 != .cell) && scope.names.all (λy=>y.2 != .local || scope.names.lookup y.1 == some .local) &&
 scope.names.all (λy=>y.2 != .free || sc0.names.lookup y.1 == some .cell || sc0.names.lookup y.1 == some .free) && (fr.length == N.length) &&
 (List.range fr.length).all λj=>match fr[j]? with
  |some (some i)=>(N[j]? == N0[i]?) && (match N[j]? with|some x=>scope.names.lookup x == some .free|none=>false)
  |_=>true
def Ja(n:Nat)(apos pos:Pos):Bool:=(apos.endLine == pos.line) && decide (n < 29)
def Nf(a:Arguments)(sc:Scope):List Str:=a.args.map (·.arg)++(sc.names.filter λq=>q.2 == .free).map (·.1)
def Ct.lam(ct:Ct)(a:Arguments)(sc:Scope):Ct:={ct with N:=Nf a sc,sc:=sc,df:=false,Nd:=[]}
abbrev JI:Str:="part"
noncomputable def Px(sc0:Scope)(a:Arguments)(sc:Scope):Bool:=(sc.kind == .function) && !sc.isCoroutine && !sc.isGenerator && sc.names.all (λy=>y.2 != .cell) && sc.names.all (λy=>y.2 != .local || (a.args.map (·.arg)).contains y.1) &&
 sc.names.all (λy=>y.2 != .free || sc0.names.lookup y.1 == some .cell || sc0.names.lookup y.1 == some .free) && decide ((Nf a sc).Nodup) && (a.args.all λy=>sc.names.lookup y.arg == some .local) && (sc.names.all λy=>y.2 != .free || sc.names.lookup y.1 == some .free) &&
 decide (a.args.map (·.arg)=[JI]) && a.posonlyargs.isEmpty && a.vararg.isNone && a.kwonlyargs.isEmpty && a.kwarg.isNone && a.defaults.isEmpty && a.kw_defaults.isEmpty
def Tq(ct:Ct):List Str->Option (List Nat)
 |[]=>some []
 |x::xs=>(ct.slot x).bind λi=>(Tq ct xs).map (i::·)
noncomputable def WL(ct:Ct)(x:Str)(a:T)(as:Arguments)(sc:Scope)(lp:Pos)(t:Option T):Option T:=if Px ct.sc as sc && ct.df && ct.glob x then
 (ct.fns.lookup x).bind λf=>(ct.Nd.lookup lp).bind λl=>(Tq ct ((sc.names.filter λq=>q.2 == .free).map (·.1))).bind λEK=>t.bind λt=>if ct.lt l (Nf as sc).length t then some (.Kf f a l EK)else none else none
noncomputable def bF(ct:Ct)(x:Str)(ts:List T):Option T:=
 if ct.own x then(if x="max" then(two ts).map λq=>.A1 (Aw Pb) q.1 q.2 else if x="min" then(two ts).map λq=>.A1 (Aw P9) q.1 q.2 else(one ts).bind λt=>(aj x).map λf=>.Ak f t)
 else match ct.slot x with
 |some i=>some (.app i ts)
 |none=>if ct.glob x then(match ct.fns.lookup x with|some f=>some (.call f ts)|none=>(ct.cls.lookup x).bind λf=>(one ts).map λt=>.make f [t])else none
noncomputable def bD(ct:Ct)(m:Str)(nm:Bool)(o:T)(ts:List T):Option T:=match ct.NN.lookup m with
 |some f=>if nm then some (.Bq f o ts)else none
 |none=>
 if m="get" then(one ts).map λt=>.A1 Eu o t
 else if m="index" then(one ts).map λt=>.A1 Dx o t
 else if m="upper"/\ts.isEmpty=true then some (.Ak G7 o)else none
def cV(x:T)(lo hi:Option T):Option T:=match lo,hi with
 |some l,none=>some (.A1 M1 x l)
 |none,some h=>some (.A1 Ol x h)
 |some l,some h=>some (.Xx Vq x l h)
 |none,none=>none
noncomputable def XA(ct:Ct)(tg e:Expr)(t:Option T)(a b:Option T):Option (Sq×T):=match ct.DW "range" e,ct.DW "enumerate" e,ct.call2 "zip" e,ct.call2 "range" e with
 |some _,_,_,_=>a.map λa=>(DP,a)
 |none,some _,_,_=>if Cb tg then a.map λa=>(IY,a)else none
 |none,none,some _,_=>if Cb tg then a.bind λa=>b.map λb=>(Jf,.A1 Gq a b)else none
 |none,none,none,some _=>a.bind λa=>b.map λb=>(KH,.A1 Gq a b)
 |none,none,none,none=>t.map λt=>(AM,t)
def SM(ct:Ct)(e:Expr):Option (C->Option C):=(GX e).bind λy=>if ct.own y then(tyName y).map FI else none
mutual
noncomputable def kE (ct:Ct):Expr->Option T
 | .Constant c _ _=>match c with
   |.none=>some (.cst (.p .AG))
   |.bool b=>some (.cst (.p (.bl b)))
   |.int i=>some (.cst (.p (.int i)))
   |.str x=>some (.cst (.p (.str x)))
   |_=>none
 |.Name x _=>ct.name x
 |.Tuple es _ _=>(PK ct es).map .tup
 |.List es _=>(PK ct es).map .lst
 |.Dict ks vs _=>if ks.isEmpty && vs.isEmpty then some (.Ak (λ_=>some (.Bl true [])) (.cst (.p .AG)))else none
 |.BinOp a op b _=>(bB op).bind λo=>(kE ct a).bind λx=>(kE ct b).map λy=>.A1 o x y
 | .UnaryOp op a _=>(kE ct a).bind λx=>match op with
   |.Not=>some (.not x)
   |.USub=>some (.Ak (Hc N5) x)
   |_=>none
 |.BoolOp op es _=>kB ct op es
 |.IfExp c a b _=>(kE ct c).bind λc=>(kE ct a).bind λx=>(kE ct b).map λy=>.ite c x y
 |.Compare a ops es _=>(kE ct a).bind λx=>(PK ct es).bind λys=>Ti x ops ys
 |.Attribute o m _=>if(GX o).isSome then(kE ct o).bind λx=>(ct.fld.idxOf? m).map λj=>.Ak (DA j) x else none
 |.Subscript v i _=>(kE ct v).bind λx=>if IJ i then(kI ct i).bind λq=>cV x q.1 q.2 else(kE ct i).map λy=>.A1 Ae x y
 |.ListComp elt gs sc _=>kG ct sc gs (kE (ct.block sc).1 elt)
 |.Call f args kws pos=>if kws.isEmpty then kC ct f args pos (PK ct args) (XB ct args) (a8 ct args) (bG ct args)else none
 |_=>none
noncomputable def kI (ct:Ct):Expr->Option (Option T×Option T)
 |.Slice lo hi st _=>if st.isNone then(kO ct lo).bind λl=>(kO ct hi).map λh=>(l,h)else none
 |_=>none
noncomputable def kO (ct:Ct):Option Expr->Option (Option T)
 |none=>some none
 |some e=>(kE ct e).map some
noncomputable def kC (ct:Ct):Expr->List Expr->Pos->Option (List T)->Option T->Option T->Option T->Option T
 | .Name x _,args,_,ts,a1,l1,aa=>if ct.own x && decide (x="isinstance")then(two args).bind λq=>(SM ct q.2).bind λty=>a1.map λt=>.Ak ty t
   else match(two args).bind λq=>WC q.2 with
   |some l=>a1.bind λa=>WL ct x a l.1 l.2.2.1 l.2.2.2 l1
   | none=>match(one args).bind (special ct x)with
     |some f=>aa.map λt=>.Ak f t
     |none=>ts.bind (bF ct x)
 |.Attribute o m ap,args,pos,ts,_,_,_=>if Ja args.length ap pos && Uq o then(kE ct o).bind λt=>ts.bind (bD ct m (GX o).isSome t)else none
 |_,_,_,_,_,_,_=>none
noncomputable def XB (ct:Ct):List Expr->Option T
 |[]=>none
 |e::_=>kE ct e
noncomputable def a8 (ct:Ct):List Expr->Option T
 |[]=>none
 |e::es=>bE ct e <|> a8 ct es
noncomputable def bE (ct:Ct):Expr->Option T
 |.Lambda a b sc _=>kE (ct.lam a sc) b
 |_=>none
noncomputable def bG (ct:Ct):List Expr->Option T
 |[]=>none
 |e::_=>Ni ct e
noncomputable def PK (ct:Ct):List Expr->Option (List T)
 |[]=>some []
 |e::es=>(kE ct e).bind λt=>(PK ct es).map λts=>t::ts
noncomputable def kB (ct:Ct) (op:PySem.BoolOp):List Expr->Option T
 |[]=>none
 |e::es=>(kE ct e).bind λx=>if es.isEmpty then some x else(kB ct op es).map λy=>match op with| .And=>.and x y| .Or=>.or x y
noncomputable def kG (ct:Ct) (sc:Scope):List Comprehension->Option T->Option T
 |[],_=>none
 |⟨tg,it,ifs,ia⟩::gs,elt=>(Xz (ct.block sc).1 tg).bind λg=>(XA ct tg it (kE ct it) (Ni ct it) (JW ct it)).bind λq=>(PK (ct.block sc).1 ifs).bind λcs=>elt.bind λe=>
     if decide (ia=0) && gs.isEmpty && decide (cs.length<=1) && Qy ct.N ct.sc (ct.block sc).1.N sc (ct.block sc).2 && decide ((ct.block sc).1.N.Nodup)then some (.comp g q.1 q.2 cs e (ct.block sc).2)else none
noncomputable def Ni (ct:Ct):Expr->Option T
 |.Call _ args _ _=>XB ct args
 |_=>none
noncomputable def JW (ct:Ct):Expr->Option T
 |.Call _ args _ _=>eP ct args
 |_=>none
noncomputable def eP (ct:Ct):List Expr->Option T
 |[]=>none
 |_::es=>XB ct es
end
def Mi(ct:Ct)(e:Expr):Option (Nat×Str×List Expr):=(Tj e).bind λq=>(QB q.1).bind λa=>(GX a.1).bind λx=>if q.2.2.1.isEmpty && Ja q.2.1.length a.2.2 q.2.2.2 then(ct.slot x).map λi=>(i,a.2.1,q.2.1)else none
def Zd(m:Str):Option (C->List C->Option C):=
 if m="append" then some (EJ LF)else if m="extend" then some (EJ IW)else none
noncomputable def PH(ct:Ct)(e:Expr):Option S:=(Mi ct e).bind λq=>if q.2.1="pop"/\q.2.2.isEmpty=true then some (.pop none q.1)else if q.2.1="insert" then(two q.2.2).bind λa=>(kE ct a.1).bind λt=>(kE ct a.2).map λu=>.Ce q.1 true (Ds SV) [t,u]else(Zd q.2.1).bind λf=>(one q.2.2).bind λa=>(kE ct a).map λt=>.Ce q.1 true f [t]
def PD(ct:Ct)(e:Expr):Option Nat:=(Mi ct e).bind λq=>if q.2.1="pop"/\q.2.2.isEmpty=true then some q.1 else none
noncomputable def eM(ct:Ct)(e:Expr):Expr->Option S
 | .Name x _=>(ct.Cy x).bind λi=>match PD ct e with
   |some j=>some (.pop (some i) j)
   |none=>(kE ct e).map λt=>.asg (.nm i) t
 |.Tuple es _ _=>if Cb e then none else(kE ct e).bind λt=>(JV ct es).map λis=>.asg (.tup is) t
 | .Subscript v i _=>(kE ct e).bind λt=>if IJ i then none else(kE ct i).bind λk=>match QB v with
   |some q=>((GX q.1).bind ct.slot).bind λj=>(ct.fld.idxOf? q.2.1).map λf=>.Ce j false (Ds (Bz f)) [t,k]
   |none=>((GX v).bind ct.slot).map λj=>.Ce j false (Ds λc x k=>Dp c k x) [t,k]
 |.Attribute o f _=>((GX o).bind ct.slot).bind λj=>(ct.fld.idxOf? f).bind λn=>(kE ct e).map λt=>.Ce j false (EJ (FF n)) [t]
 |_=>none
def Zm(ct:Ct)(e:Expr):Option S:=(Mi ct e).bind λq=>(ct.NM.lookup q.2.1).bind λf=>(PK ct q.2.2).map λts=>.HQ q.1 f ts
def kEx(ct:Ct)(e:Expr):Option S:=if BF e then none else match PH ct e with
 |some s=>some s
 | none=>match Zm ct e with
   |some s=>some s
   |none=>(kE ct e).map .expr
def eJ(ct:Ct)(e:Expr):Option S:=match(GX e).bind ct.slot with
 |some i=>some (.CG i)
 |none=>(kE ct e).map .ret
def Ct.src(ct:Ct)(e:Expr):Expr:=match ct.DW "range" e,ct.DW "enumerate" e with
 |some a,_=>a
 |none,some a=>a
 |none,none=>e
def Z9(ct:Ct)(e:Expr)(t:T):Bool:=(Fo t).isNone || (GX (ct.src e)).isSome
mutual
noncomputable def kS (ct:Ct):Stmt->Option S
 |.Assign tgs e _=>(one tgs).bind (eM ct e)
 |.Expr e _=>kEx ct e
 | .Return o _=>match o with
   |none=>some (.ret (.cst (.p .AG)))
   |some e=>eJ ct e
 |.If c a b _=>(kE ct c).bind λt=>(SI ct a).bind λx=>(SI ct b).map λy=>.ifs t x y
 |.While c b o _=>if o.isEmpty then(kE ct c).bind λt=>(SI ct b).map λx=>.QZ t x else none
 |.For tg it b o _=>if o.isEmpty then(Xz ct tg).bind λg=>(XA ct tg it (kE ct it) (Ni ct it) (JW ct it)).bind λq=>(SI ct b).bind λx=>if Z9 ct it q.2 then some (.Di g q.1 q.2 x)else none else none
 |_=>none
noncomputable def SI (ct:Ct):List Stmt->Option (List S)
 |[]=>some []
 |s::ss=>(SI ct ss).map λts=>(kS ct s).getD .no::ts
end
end Nv
namespace Nv
open PySem L2 PyProof.Rows
def A7:Expr->Bool
 |.Starred _ _=>false
 |.Set _ _ _=>false
 |.Slice _ _ _ _=>false
 |_=>true
theorem A2(h:A7 e=true)(es:List Expr)(env:PySem.Env):starEach (e::es) env=(false,eval e env)::starEach es env:=by
 cases e<;>first|rfl|cases h
theorem F9(h:A7 e=true)(op:CmpOp):behindInMarks op e=false:=by
 cases e<;>first|rfl|cases h
theorem Jt(h:BF e=false)(tg:Option Expr)(l:Nat)(env:PySem.Env):swapsWith e tg l env=pure false:=by
 cases e<;>first|rfl|cases h
theorem DI(h:A7 e=true)(env:PySem.Env)(x:Value):foldedSetIterable e env x=pure x:=by
 cases e<;>first|rfl|cases h
variable{X:Cx}{W:Wd}{Y:L2.St}{H:Hp}
def Ox(W:Wd):V->Hp->(Bool->Hp->Prop)->Prop:=λx H Q=>∃c b,Dj W H c x/\FE c=some b/\Q b H
theorem TY{F:Env->Res C}{Q:Bool->Hp->Prop}(h:tG W rB (λU=>(F U).bind λc=>Res.of (FE c)) Y H Q):tG W (rV W) F Y H λx H1=>Ox W x H1 Q:=by
 rintro⟨U,B,R,hA⟩:h;refine#[U,B,R,hA.step Eh λc v H1 _ e1 t1 r1 h1=>?_];rintro⟨b,eb,h1⟩:h1.of;exact#[c,b,r1.rd,eb,h1 b H1 (Ext.refl _) t1 rfl]
variable{vs:List V}
theorem F6{ps:List P}(h:Cw W H ps vs):(!ps.isEmpty)= !vs.isEmpty:=by cases h<;>rfl
theorem V2(hK:W.K=X.K):ZL X (Ox W):=by
 intro p0 s Y H x v Q I rx h;rintro⟨c,b,h1,e,q⟩:h;have ok:=λ(z:ZK X.K x H b)=>V3 p0 s Y H x v Q I rx #[b,z,q]
 cases c with
 |Bl o kvs=>cases e
 |obj _ _=>cases e
 |lst o ps=>
   cases e;rintro⟨a,vs,rfl,k1,k2⟩:Bn rfl h1;exact ok (.inl #[vs,.inl k1,F6 k2])
 |p y =>
   cases y with
   |AG=>cases e;cases Gj h1;exact ok rfl
   |bl i=>cases e;cases Eg h1;exact ok rfl
   |int i=>cases e;cases AZ h1;exact ok rfl
   |str i=>
     cases BI h1;rintro⟨hl,rfl⟩:A3 e;refine ok #[Nat.le_trans hl Bw,?_];cases i.length<;>simp<;>lia
   |tup ps=>
     cases e;rintro⟨a,vs,rfl,k1,k2⟩:CH h1;exact ok (.inr (.inl #[vs,hK▸k1,F6 k2]))
   |fn _ _=>cases e
   |box t ps=>
     cases t with
     |succ _=>cases e
     |zero=>
       cases e;rintro⟨a,vs,rfl,k1,k2⟩:Bn rfl h1;exact ok (.inl #[vs,.inl k1,F6 k2])
theorem Ul(hK:W.K=X.K){a:Expr}{ta:TE}(ha:PE X a ta)(he:∀whole,isTrue a X.env whole=(do let v <-whole;standAt a.pos;holding [v] (truthy v))):PT X a (λY H Q=>ta Y H λx H1=>Ox W x H1 Q):=by
 intro p0 s Y H Q I h;exact isTrue_plain (AS (ha p0 s Y H _ I h) λv s1 ⟨x,H1,I1,r1,q1⟩=>V2 hK p0 s1 Y H1 x v Q I1 r1 q1) (he _)
structure AR(X:Cx)(W:Wd)(cf:CF)(e:Expr)(t:T):Prop where
 v:PE X e (tG W (rV W) (ev cf t))
 b:PT X e (tG W rB (tv cf t))
 st:A7 e=true
 a:∀(i:Nat) (y:Str) (py spos:Pos),X.N.Nodup->X.N[i]? =some y->Loc X.env.scope y->(X.fn y=true\/X.env.scope.names.lookup y=some .local)->PS X (.Assign [.Name y py] e spos) (Js (tG W (rV W) (ev cf t)) (Ew i))
abbrev E6(X:Cx)(W:Wd)(cf:CF):List Expr->List T->Prop:=Paired (AR X W cf)
variable{cf:CF}
theorem ZJ{t:TE}(nc:BF e=false)(h:PE X e t)(i:Nat)(y:Str)(py spos:Pos)(hN:X.N.Nodup)(hi:X.N[i]? =some y)(hx:Loc X.env.scope y)(hf:X.fn y=true\/X.env.scope.names.lookup y=some .local):PS X (.Assign [.Name y py] e spos) (Js t (Ew i)):=
 KI hN hi hx h (Jt nc _ _ _) hf
theorem AR.of(hK:W.K=X.K){e:Expr}(v:PE X e (tG W (rV W) (ev cf t)))(ht:tv cf t=λU=>(ev cf t U).bind λc=>Res.of (FE c))(he:∀whole,isTrue e X.env whole=(do let v <-whole;standAt e.pos;holding [v] (truthy v)):=by intro _;rfl)
 (st:A7 e=true:=by rfl)(nc:BF e=false:=by rfl):AR X W cf e t:=
 #[v,Gn (Ul hK v he) λY H Q z=>TY (by rw[ht]at z;exact z),st,ZJ nc v]
theorem AR.Z0(v:PE X e (tG W (rV W) (ev cf t)))(b:PT X e (tG W rB (tv cf t)))(st:A7 e=true:=by rfl)(nc:BF e=false:=by rfl):AR X W cf e t:=#[v,b,st,ZJ nc v]
theorem DE(hK:W.K=X.K){e:Expr}{c:C}(h:PE X e (tC v))(hr:∀H own bor,AF W H own bor c.bor v)(he:∀whole,isTrue e X.env whole=(do let v <-whole;standAt e.pos;holding [v] (truthy v)))(st:A7 e=true)(nc:BF e=false):AR X W cf e (.cst c):=
 AR.of hK (Ai h λY H Q ⟨U,B,R,hA⟩=>hA v H (Ext.refl H) R.tb (hr _ _ _)) rfl he st nc
variable{pos:Pos}
theorem Ro(hK:W.K=X.K){i:Nat}{x:Str}(hN:X.N[i]? =some x)(hv:ak X.env.scope x)(hd:ng x)(hcd:(x == ("__classdict__":Str))=false):AR X W cf (.Name x pos) (.var i):=
 AR.of hK (Ai (OM hN hv hd hcd) λY H Q ⟨U,B,R,hA⟩=>by
  rintro⟨c,ec,hA⟩:hA.of;rintro⟨c0,e0,rfl⟩:AU ec;rintro⟨v,e1,r⟩:R.get i c0 e0
  exact#[v,e1,hA v H (Ext.refl H) R.tb (r.borrow λ_ z=>z)]) rfl
theorem VV:∀{es:List Expr} {ts:List T},E6 X W cf es ts->PA X es (tG W (Uj W) (FO cf ts))
 |_,_,.nil=>Iy Bv λY H Q z=>V5 z
 |_,_,.cons h r=>Iy (AB (OP h.v) (VV r) (A2 h.st _ _)) λY H Q z=>Rf z
theorem OT:∀{es:List Expr} {ts:List T},E6 X W cf es ts->PA X es (tG W (NK W) (BK cf ts))
 |_,_,.nil=>Iy Bv λY H Q z=>LU z
 |_,_,.cons h r=>Iy (AB h.v (OT r) (A2 h.st _ _)) λY H Q z=>Ga z
variable{H:Hp}
theorem O1{Y:L2.St}{Q:VK}{F:Env->Res (List P)}{f:List P->C}{g:List V->HO}(h:tG W (rV W) (λU=>(F U).bind λps=>if ps.length<=1000 then .ok (f ps)else .stuck) Y H Q)
 (hf:∀B H0 H1 ps vs p,Ext H0 H1->H1 p=none->Cw W H1 ps vs->rV W B H0 (upd H1 p (g vs)) (f ps) (.ref p)):
 tG W (Uj W) F Y H λxs H1=>xs.length<=sizeLine/\∀p,H1 p=none->Q (.ref p) (upd H1 p (g xs)):=by
 rintro⟨U,B,R,hA⟩:h;refine#[U,B,R,hA.step Au λps vs H1 _ e1 t1 r1 h1=>?_];split at h1
 .rename_i hl;have:=Paired.length r1;have hb:(1000:Nat)<=sizeLine:=by decide
  exact#[by lia,λp hp=>h1 _ _ (.of (Ar hp)) (t1.same (Ar hp)) (hf B H1 H1 ps vs p (Ext.refl _) hp r1)]
 .exact h1.elim
variable{ts:List T}
theorem Rq(hK:W.K=X.K){es:List Expr}{x1:_}(h:E6 X W cf es ts):AR X W cf (.Tuple es x1 pos) (.tup ts):=
 AR.of hK (Ai (VO (VV h)) λY H Q z=>O1 (g:=.tup) z λB H0 H1 ps vs p _ hp r=>A9.mpr #[p,vs,rfl,D1.of A6,r.mono (AH.of (Ar hp))]) rfl
theorem Rt(hK:W.K=X.K){es:List Expr}(h:E6 X W cf es ts):AR X W cf (.List es pos) (.lst ts):=
 AR.of hK (Ai (VS (VV h)) λY H Q z=>O1 (g:=.lst) z λB H0 H1 ps vs p e hp r=>#[p,vs,rfl,#[A6,e.none hp],r.mono (AH.of (Ar hp))]) rfl
theorem Ry(hK:W.K=X.K){op:Operator}{g:C->C->Option C}(ho:BG X (binaryOp op) (AV W g))(h1:AR X W cf a x)(h2:AR X W cf b y):AR X W cf (.BinOp a op b pos) (.A1 g x y):=
 AR.of hK (Ai (YR ho h1.v h2.v) λY H Q z=>Jo z) rfl
theorem Vm(hK:W.K=X.K){op:UnaryOp}{g:C->Option C}(ho:Hj X (unaryOp op) (BZ W g))(he:∀whole,isTrue (.UnaryOp op a pos) X.env whole=(do let v <-whole;standAt (Expr.UnaryOp op a pos).pos;holding [v] (truthy v)))(h1:AR X W cf a x):AR X W cf (.UnaryOp op a pos) (.Ak g x):=
 AR.of hK (Ai (YO ho h1.v) λY H Q z=>U0 z) rfl he
theorem NY{F:Env->Res C}{Y:L2.St}{Q:Bool->Hp->Prop}(hb:∀U c,F U= .ok c->∃b,c=bC b)(h:tG W rB (λU=>(F U).bind λc=>Res.of (FE c)) Y H Q):tG W (rV W) F Y H λx H1=>∃k,x= .bl k/\Q k H1:=by
 rintro⟨U,B,R,hA⟩:h;refine#[U,B,R,hA.step Eh λc v H1 e0 e1 t1 r1 h1=>?_];rintro⟨b,rfl⟩:hb U c e0;exact#[b,Eg r1,h1 b H1 (Ext.refl _) t1 rfl]
variable{α:Type}
theorem CA{β:Type}{r:Res α}{f:α->Res β}{b:β}(h:r.bind f= .ok b):∃a,r= .ok a/\f a= .ok b:=by
 cases r with
 |stuck=>cases h
 |ok a=>exact#[a,rfl,h]
theorem OY{o:Option α}{b:α}(h:Res.of o= .ok b):o=some b:=by
 cases o with
 |none=>cases h
 |some a=>cases h;rfl
theorem Rw{op:CmpOp}{g:C->C->Option C}(ho:BG X (compareOp op) (AV W g))(hb:∀a b c,g a b=some c->∃k,c=bC k){a b:Expr}(h1:AR X W cf a x)(h2:AR X W cf b y):AR X W cf (.Compare a [op] [b] pos) (.A1 g x y):=
 AR.Z0 (Ai (RY ho h1.v h2.v (F9 h2.st op)) λY H Q z=>Jo z) (Gn (RO ho h1.v h2.v (F9 h2.st op)) λY H Q z=>Jo (NY (λU c e=>by
  rintro⟨u,_,e⟩:CA e;rintro⟨w,_,e⟩:CA e
  exact hb _ _ _ (OY e)) z))
theorem Rx{o1 o2:CmpOp}{f g:C->C->Option C}(h1:BG X (compareOp o1) (AV W f))(h2:BG X (compareOp o2) (AV W g))(hb:∀a b c,g a b=some c->∃k,c=bC k){a b c:Expr}(ha:AR X W cf a x)(hb':AR X W cf b y)(hc:AR X W cf c z)
 (hm:lastMarks [o1,o2] [b,c]=false):AR X W cf (.Compare a [o1,o2] [b,c] pos) (.Tn f g x y z):=
 AR.Z0 (Ai (OS h1 h2 ha.v hb'.v hc.v hm) λY H Q z=>U3 z) (Gn (OA h1 h2 ha.v hb'.v hc.v hm) λY H Q z=>U3 (NY (λU c e=>by
  rintro⟨u,_,e⟩:CA e;rintro⟨w,_,e⟩:CA e;rintro⟨k,_,e⟩:CA e;cases k with
  |true=>
    rintro⟨w,_,e⟩:CA e;exact hb _ _ _ (OY e)
  |false=>cases e;exact#[false,rfl]) z))
theorem snd_and{b:Expr}{rest:List Expr}(h1:AR X W cf a x)(h2v:PE X (.BoolOp .And (b::rest) pos) (tG W (rV W) (ev cf y)))(h2b:PW X (.BoolOp .And (b::rest) pos) (tG W rB (tv cf y))):
 PE X (.BoolOp .And (a::b::rest) pos) (tG W (rV W) (ev cf (.and x y)))/\PW X (.BoolOp .And (a::b::rest) pos) (tG W rB (tv cf (.and x y))):=
 #[Ai (VU h1.v h2v) λY H Q z=>V9 z,λwhole p0 s Y H Q I z=>VI h1.b h2b whole p0 s Y H Q I (Yr z)]
theorem Vn{b:Expr}{rest:List Expr}(h1:AR X W cf a x)(h2v:PE X (.BoolOp .Or (b::rest) pos) (tG W (rV W) (ev cf y)))(h2b:PW X (.BoolOp .Or (b::rest) pos) (tG W rB (tv cf y))):
 PE X (.BoolOp .Or (a::b::rest) pos) (tG W (rV W) (ev cf (.or x y)))/\PW X (.BoolOp .Or (a::b::rest) pos) (tG W rB (tv cf (.or x y))):=
 #[Ai (YQ h1.v h2v) λY H Q z=>Ym z,λwhole p0 s Y H Q I z=>YM h1.b h2b whole p0 s Y H Q I (aA z)]
theorem Rr(h1:AR X W cf a x):AR X W cf (.UnaryOp .Not a pos) (.not x):=
 AR.Z0 (Ai (VQ h1.v) λY H Q z=>V4 z) (Gn (VJ h1.b) λY H Q z=>Yn z)
theorem Ru(hK:W.K=X.K)(h0:AR X W cf c z)(h1:AR X W cf a x)(h2:AR X W cf b y):AR X W cf (.IfExp c a b pos) (.ite z x y):=
 AR.Z0 (Ai (OO h0.b h1.v h2.v) λY H Q z=>Yp z) λ_ _ _ _ _ _ ⟨_,_,_,z⟩=>z.elim
def AL(as:List Nat)(Y Y':L2.St):Prop:=Y'.length=Y.length/\∀i,i∉as->Y'[i]? =Y[i]?
theorem AL.refl(as:List Nat)(Y:L2.St):AL as Y Y:=#[rfl,λ_ _=>rfl]
theorem AL.trans{as:List Nat}{Y Y1 Y2:L2.St}(a:AL as Y Y1)(b:AL as Y1 Y2):AL as Y Y2:=#[b.1.trans a.1,λi h=>(b.2 i h).trans (a.2 i h)]
theorem AL.mono{as bs:List Nat}{Y Y':L2.St}(a:AL as Y Y')(h:∀i∈as,i∈bs):AL bs Y Y':=#[a.1,λi hi=>a.2 i λz=>hi (h i z)]
theorem AL.set{as:List Nat}{Y:L2.St}{i:Nat}{x:Option V}(h:i∈as):AL as Y (Y.set i x):=⟨length_set ..,λj hj=>by
 rw[List.getElem?_set_ne]
 exact λz=>hj (z▸h)⟩
structure Aq(W:Wd)(Hin:Hp)(A0:Addr->Prop)(Bo:Nat->Addr->Prop)(H:Hp)(U:Env)(Y:L2.St):Prop where
 len:Y.length=U.length
 tb:Bx W H
 env:∃O:Addr->Nat,∀i c,A8 U i=some c->∃v,Y[i]? =some (some v)/\AF W H (λa=>O a=i/\(Hin a=none\/A0 a)) (Bo i) c v
 bo:∀i a,Bo i a->(∃x,Hin a=some x)/\¬A0 a
 EZ:∀b x,Hin b=some x->¬A0 b->CB x=false->H b=some x
 FN:∀b x,Hin b=some x->∃y,H b=some y
 kp:AH Hin H
section
variable{Hin:Hp}{A0:Addr->Prop}{Bo:Nat->Addr->Prop}{H1:Hp}{U:Env}
theorem Aq.ext(S:Aq W Hin A0 Bo H U Y)(e:Ext H H1)(t:Bx W H1):Aq W Hin A0 Bo H1 U Y:=
 #[S.len,t,let⟨O,h⟩:=S.env;#[O,λi c q=>let⟨v,q1,q2⟩:=h i c q;#[v,q1,q2.ext e (λ_ z=>z) λ_ z=>z]],S.bo,λb x q n nt=>e.but b x (S.EZ b x q n nt) nt,λb x q=>let⟨y,z⟩:=S.FN b x q;e.there b y z,S.kp.trans e.keep]
theorem Aq.rev(S:Aq W Hin A0 Bo H U Y):Kp W (λa=>∃x,H a=some x) H U Y:=
 ⟨S.len,S.tb,λ_ z=>z,λi c q=>by
  rintro⟨O,h⟩:S.env;rintro⟨v,q1,q2⟩:h i c q
  exact#[v,q1,q2.mono (λa=>#[λ_ z=>z,λ_ _ z=>z]) (λa x _ e _=>#[e,x,e]) λa x _ e _=>#[e,x,e]]⟩
theorem Aq.new(S:Aq W Hin A0 Bo H U Y)(h:H a=none):Hin a=none:=by
 cases e:Hin a with
 |none=>rfl
 |some x=>rintro⟨y,z⟩:S.FN a x e;rw[h]at z;cases z
theorem Cq{i j:Nat} :A8 (U.set i x) j=if i=j then(if i < U.length then x else none)else A8 U j:=by
 unfold A8;rw[List.getElem?_set];split
 .subst_vars
  split<;>simp_all
 .rfl
theorem IM{i:Nat}{c:C}(h:A8 U i=some c):i < U.length:=by
 unfold A8 at h;cases e:U[i]? with
 |none=>rw[e]at h;cases h
 |some x=>exact(List.getElem?_eq_some_iff.mp e).1
theorem D5{c:C}{own own' bor bor':Addr->Prop}(ho:c.own=true)(r:AF W H own bor c v)(h:∀a x,own a->H a=some x->own' a):AF W H own' bor' c v:=by
 cases c with
 |p x=>exact r
 |lst o ps=>cases (show o=true from ho);rintro⟨a,vs,e1,e2,e3⟩:r;exact#[a,vs,e1,#[e2.1,h a _ e2.2 e2.1],e3]
 |Bl o ps=>cases (show o=true from ho);rintro⟨a,vs,e1,e2,e3⟩:r;exact#[a,vs,e1,#[e2.1,h a _ e2.2 e2.1],e3]
 |obj o fs=>
   cases (show o=true from ho);rintro⟨a,dx,vs,e1,e2,e3,e4⟩:r;refine#[a,dx,vs,e1,e2,h a _ e3 e2,Paired.EW e4.1 λd v z=>?_,e4.2];cases d with
   |p x=>exact z
   |d kvs=>rintro⟨b,es,k1,k2,k3⟩:z;exact#[b,es,k1,#[k2.1,h b _ k2.2 k2.1],k3]
theorem Aq.set{i:Nat}{c:C}{B:Addr->Prop}(S:Aq W Hin A0 Bo H U Y)(e:Ext H H1)(t:Bx W H1)(hi:i < Y.length)(ho:c.own=true)(r:rV W B H H1 c v):Aq W Hin A0 Bo H1 (U.set i (some c)) (Y.set i (some v)):=by
 rintro⟨O,h⟩:S.env;have S1:=S.ext e t;refine#[by rw[length_set,length_set];exact S.len,t,#[λa=>if(H a).isNone then i else O a,λj d q=>?_],S.bo,S1.EZ,S1.FN,S1.kp];rw[Cq]at q;split at q
 .rename_i hij;subst hij;split at q
  .cases q;refine#[v,List.getElem?_set_self hi,?_];exact D5 ho r λa x z _=>#[by show(if(H a).isNone then i else O a)=i;rw[z];rfl,.inl (S.new z)]
  .cases q
 .rename_i hij;rintro⟨u,q1,q2⟩:h j d q;refine#[u,by rw[List.getElem?_set_ne hij];exact q1,q2.mono e.keep (λa x p k n=>#[e.but a x k n,?_,p.2]) λa x p k n=>#[e.but a x k n,p]];show(if(H a).isNone then i else O a)=j;rw[k];exact p.1
section
variable (W:Wd)(Hin:Hp)(A0:Addr->Prop)
def DB(c:C)(v:V)(H':Hp):Prop:=AF W H' (λa=>Hin a=none\/A0 a) (λ_=>False) c v/\Bx W H'/\(∀b x,Hin b=some x->¬A0 b->CB x=false->H' b=some x)/\(∀b x,Hin b=some x->∃y,H' b=some y)/\AH Hin H'
variable (Bo:Nat->Addr->Prop)
def Bh(as:List Nat)(D:Ends)(Y:L2.St)(r:Fl):Prop:=match r with
 |.stuck=>False
 |.nx U'=>∀Y' H',Aq W Hin A0 Bo H' U' Y'->AL as Y Y'->D.nx Y' H'
 |.ret c=>∀v H',DB W Hin A0 c v H'->D.rt v H'
end
def tS(W:Wd)(as:List Nat)(F:Env->Fl):TS:=λD Y H=>∃Hin A0 Bo U,Aq W Hin A0 Bo H U Y/\Bh W Hin A0 Bo as D Y (F U)
variable{as bs:List Nat}{D:Ends}{r:Fl}{F G:Env->Fl}
theorem Bh.later{Y1:L2.St}(h:Bh W Hin A0 Bo as D Y r)(u:AL as Y Y1):Bh W Hin A0 Bo as D Y1 r:=by
 cases r with
 |stuck=>exact h
 |ret c=>exact h
 |_=>exact λY' H' s w=>h Y' H' s (u.trans w)
theorem Bh.more(h:Bh W Hin A0 Bo bs D Y r)(hm:∀i∈as,i∈bs):Bh W Hin A0 Bo as D Y r:=by
 cases r with
 |stuck=>exact h
 |ret c=>exact h
 |_=>exact λY' H' s w=>h Y' H' s (w.mono hm)
theorem Bh.step{α β:Type}{rep:Rp α β}{B:Addr->Prop}{q:Res α}{G:α->Fl}{K:β->Hp->Prop}(S:Aq W Hin A0 Bo H U Y)(h:Bh W Hin A0 Bo as D Y (q.fl G))
 (k:∀a b H1,Ext H H1->Bx W H1->rep B H H1 a b->Bh W Hin A0 Bo as D Y (G a)->K b H1):D2 W rep B H q K:=by
 cases q with
 |stuck=>exact h
 |ok a=>exact λb H1 e t r=>k a b H1 e t r h
theorem YB(h:tS W [] (λU=>.nx U) D Y H):U8 D Y H:=let⟨_,_,_,_,S,hA⟩:=h;hA Y H S (AL.refl _ _)
theorem VA(h:tS W (as++bs) (λU=>(F U).then G) D Y H):Ys (tS W as F) (tS W bs G) D Y H:=by
 rintro⟨Hin,A0,Bo,U,S,hA⟩:h;have m1:∀i∈as,i∈as++bs:=λi hi=>mL hi
 have m2:∀i∈bs,i∈as++bs:=λi hi=>mR hi
 refine#[Hin,A0,Bo,U,S,?_];replace hA:Bh W Hin A0 Bo (as++bs) D Y ((F U).then G):=hA;cases eF:F U with
 |nx U1=>rw[eF]at hA;exact λY' H' s w=>#[Hin,A0,Bo,U1,s,(Bh.later (r:=G U1) hA (w.mono m1)).more m2]
 |stuck=>rw[eF]at hA;exact hA
 |ret c=>rw[eF]at hA;exact hA
theorem aG{B:Env->Res Bool}(h:tS W (as++bs) (λU=>(B U).fl λx=>if x then F U else G U) D Y H):Yw (tG W rB B) (tS W as F) (tS W bs G) D Y H:=by
 rintro⟨Hin,A0,Bo,U,S,hA⟩:h;refine#[U,_,S.rev,hA.step S λa b H1 e t r h1=>?_];cases r;cases a with
 |true=>exact#[Hin,A0,Bo,U,S.ext e t,h1.more λi hi=>mL hi]
 |false=>exact#[Hin,A0,Bo,U,S.ext e t,h1.more λi hi=>mR hi]
theorem Vz{F:Env->Res C}(h:tS W [] (λU=>(F U).fl λ_=>.nx U) D Y H):Jq (tG W (rV W) F) D Y H:=by
 rintro⟨Hin,A0,Bo,U,S,hA⟩:h;exact#[U,_,S.rev,hA.step S λa b H1 e t r h1=>h1 Y H1 (S.ext e t) (AL.refl _ _)]
theorem Ud{F:Env->Res C}(h:tS W [] (λU=>(F U).fl λc=>if c.own then .ret c else .stuck) D Y H):Vb (tG W (rV W) F) D Y H:=by
 rintro⟨Hin,A0,Bo,U,S,hA⟩:h;refine#[U,_,S.rev,hA.step S λc v H1 e t r h1=>?_];split at h1
 .rename_i ho;have S1:=S.ext e t;exact h1 v H1 #[D5 ho r λa x z _=>.inl (S.new z),t,S1.EZ,S1.FN,S1.kp]
 .exact h1.elim
theorem Vt{i:Nat}(h:tS W [] (λU=>match A8 U i with|some c=>if c.own then .ret c else .stuck|none=>.stuck) D Y H):Vb (EO i) D Y H:=by
 rintro⟨Hin,A0,Bo,U,S,hA⟩:h;rintro⟨O,hO⟩:S.env;cases e:A8 U i with
 |none=>simp only[e]at hA;exact hA.elim
 |some c=>
   simp only[e]at hA;rintro⟨v,q1,q2⟩:hO i c e;split at hA
   .rename_i ho;exact#[v,q1,hA v H #[D5 ho q2 λa x z _=>z.2,S.tb,S.EZ,S.FN,S.kp]]
   .exact hA.elim
theorem YA{i:Nat}{F:Env->Res C}(hi:i < Y.length)(h:tS W [i] (λU=>(F U).fl λc=>match Gg (.nm i) c U with|some U'=>.nx U'|none=>.stuck) D Y H):Js (tG W (rV W) F) (Ew i) D Y H:=by
 rintro⟨Hin,A0,Bo,U,S,hA⟩:h;refine#[U,_,S.rev,hA.step S λc v H1 e t r h1=>?_];unfold Gg at h1;dsimp only at h1;split at h1
 .rename_i ho;cases hc:c.own with
  |false=>rw[hc]at ho;cases ho
  |true=>
    rw[hc]at ho;cases ho;exact h1 _ H1 (S.set e t hi hc r) (AL.set mS)
 .exact h1.elim
theorem UU{c:Env->Res Bool}{b:Env->Fl}(h:As c b U≠.stuck):∃n,Ay c b n U=As c b U:=by
 unfold As at h ⊢;split
 .exact#[_,rfl]
 .rename_i hn;rw[dif_neg hn]at h;exact absurd rfl h
theorem RE{B:Env->Res Bool}(h:tS W as (λU=>As B F U) D Y H):O4 (tG W rB B) (tS W as F) D Y H:=by
 rintro⟨Hin,A0,Bo,U,S,hA⟩:h;rintro⟨n,en⟩:UU (c:=B) (b:=F) (U:=U) λz=>by simp only[z]at hA;exact hA
 replace hA:Bh W Hin A0 Bo as D Y (As B F U):=hA;rw[<-en]at hA;refine#[λm Y' H'=>∃U',Aq W Hin A0 Bo H' U' Y'/\Bh W Hin A0 Bo as D Y' (Ay B F m U'),#[n,U,S,hA],?_]
 rintro m Y' H' ⟨U',S',hA'⟩
 cases m with
 |zero=>exact hA'.elim
 |succ m=>
   refine#[U',_,S'.rev,Bh.step (q:=B U') (G:=λx=>if x then(F U').turn (Ay B F m)else .nx U') S' hA' λx b H1 e t r h1=>?_];cases r;cases x with
   |false=>exact h1 Y' H1 (S'.ext e t) (AL.refl _ _)
   |true=>
     refine#[λY2 H2=>∃U',Aq W Hin A0 Bo H2 U' Y2/\Bh W Hin A0 Bo as D Y2 (Ay B F m U'),λY2 H2 z=>#[m,Nat.lt_succ_self m,z],Hin,A0,Bo,U',S'.ext e t,?_];have h1:Bh W Hin A0 Bo as D Y' ((F U').turn (Ay B F m)):=h1;cases eF:F U' with
     |nx U2=>rw[eF]at h1;exact λY2 H2 s w=>#[U2,s,Bh.later (r:=Ay B F m U2) h1 w]
     |stuck=>rw[eF]at h1;exact h1
     |ret c=>rw[eF]at h1;exact h1
end
def XO(o:HO):Prop:=(∀xs,o≠.tup xs)/\(∀ob w,o≠.CK ob w)/\CB o=false
theorem EV{xs:List V}:XO (.lst xs):=#[(λ_ z=>nomatch z),(λ_ _ z=>nomatch z),rfl]
theorem Hz{es:List DictEntry}:XO (DX a es):=#[(λ_ z=>nomatch z),(λ_ _ z=>nomatch z),rfl]
def ZR(W:Wd)(H:Hp)(own bor:Addr->Prop)(c':C)(x:V)(Q:VK):Prop:=∀a o o' u,own a->H a=some o->XO o->AF W (upd H a o') own bor c' x->Q u (upd H a o')
variable{Hin:Hp}{A0:Addr->Prop}{Bo:Nat->Addr->Prop}{U:Env}{D:Ends}
theorem Aq.chg{i:Nat}{c:C}{O:Addr->Nat}(S:Aq W Hin A0 Bo H U Y)(hO:∀i c,A8 U i=some c->∃v,Y[i]? =some (some v)/\AF W H (λa=>O a=i/\(Hin a=none\/A0 a)) (Bo i) c v)
 (hg:A8 U i=some c)(hx:Y[i]? =some (some x)){o:HO}(ho:O a=i/\(Hin a=none\/A0 a))(ha:H a=some o)(mu:XO o)(r:AF W (upd H a o') (λa=>O a=i/\(Hin a=none\/A0 a)) (Bo i) c' x):Aq W Hin A0 Bo (upd H a o') (U.set i (some c')) Y:=by
 have kp:AH H (upd H a o'):=BR ha mu.1 mu.2.1
 have Sn:∀b,((∃x,Hin b=some x)/\¬A0 b)->b≠a:=λb h z=>by
  subst z;rcases ho.2 with k|k
  .rw[k]at h;rintro⟨⟨_,z⟩,_⟩:h;cases z
  .exact h.2 k
 refine#[by rw[length_set];exact S.len,Ih S.tb ha mu.1 mu.2.1 mu.2.2,#[O,λj d q=>?_],S.bo,λb y q n nt=>?_,λb y q=>?_,S.kp.trans kp]
 .rw[Cq]at q;split at q
  .rename_i hij;subst hij;rw[iP (IM hg)]at q;cases q;exact#[x,hx,r]
  .rename_i hij;rintro⟨u,q1,q2⟩:hO j d q;refine#[u,q1,q2.mono kp (λb y p k n=>#[by rw[A4 λz=>hij (by rw[<-ho.1,<-p.1,z])];exact k,p]) λb y p k n=>#[by rw[A4 (Sn b (S.bo j b p))];exact k,p]]
 .rw[A4 (Sn b #[#[y,q],n])];exact S.EZ b y q n nt
 .by_cases hb:b=a
  .subst hb;exact#[_,A6]
  .rw[A4 hb];exact S.FN b y q
def Gm(W:Wd)(f:C->List C->Option C):V->List V->Hp->VK->Prop:=λx vs H Q=>∃own bor c cs c',AF W H own bor c x/\BB W H (λ_ _=>True) (λ_=>True) 0 cs vs/\f c cs=some c'/\ZR W H own bor c' x Q
variable{Fs:Env->Res (List C)}
theorem NZ{i:Nat}{f:C->List C->Option C}(S:Aq W Hin A0 Bo H U Y)(h:Bh W Hin A0 Bo [] D Y ((Fs U).fl λcs=>match(A8 U i).bind λc=>f c cs with|some c'=>.nx (U.set i (some c'))|none=>.stuck))(hg:A8 U i=some c)(hx:Y[i]? =some (some x)):
 tG W (NK W) Fs Y H λvs H2=>Gm W f x vs H2 λ_ H3=>D.nx Y H3:=by
 refine#[U,_,S.rev,h.step S λcs vs H1 e t ⟨P,r⟩ h1=>?_];have S1:=S.ext e t;rintro⟨O,hO⟩:S1.env;rw[hg]at h1;cases e1:f c cs with
 |none=>rw[show(some c).bind (λc=>f c cs)=none from e1]at h1;exact h1.elim
 |some c'=>
   rw[show(some c).bind (λc=>f c cs)=some c' from e1]at h1;rintro⟨v,q1,q2⟩:hO i c hg;rw[hx]at q1;cases q1;exact#[_,_,c,cs,c',q2,r.imp (Ext.refl _) (λ_ _ _=>trivial) (λ_ _=>trivial),e1,λa o o' u ho ha mu r'=>h1 Y _ (S1.chg hO hg hx ho ha mu r') (AL.refl _ _)]
theorem PN{c:C}(h:c.SQ=true):∃ps,c= .lst true ps:=by
 cases c with
 |lst o ps=>cases (show o=true from h);exact#[ps,rfl]
 |_=>cases h
theorem Ue{i:Nat}{f:C->List C->Option C}{r:V->List V->Hp->VK->Prop}(K:Frag)(hr:∀x vs H Q,Gm W f x vs H Q->r x vs H Q)
 (h:tS W [] (λU=>if !(A8 U i).any C.SQ then .stuck else(Fs U).fl λcs=>match(A8 U i).bind λc=>f c cs with|some c'=>.nx (U.set i (some c'))|none=>.stuck) D Y H):Jq (cQ K "list" r (EO i) (tG W (NK W) Fs)) D Y H:=by
 rintro⟨Hin,A0,Bo,U,S,hA⟩:h;rintro⟨O,hO⟩:S.env;cases hg:A8 U i with
 |none=>simp only[hg]at hA;exact hA.elim
 |some c=>
   cases hc:c.SQ with
   |false=>simp only[hg,Option.any_some,hc]at hA;exact hA.elim
   |true=>
     replace hA:Bh W Hin A0 Bo [] D Y (if(!(A8 U i).any C.SQ)=true then .stuck else(Fs U).fl λcs=>match(A8 U i).bind λc=>f c cs with|some c'=>.nx (U.set i (some c'))|none=>.stuck):=hA;rw[iN (by rw[hg];simp[hc])]at hA;rintro⟨ps,rfl⟩:PN hc;rintro⟨v,q1,q2⟩:hO i _ hg;have q3:=q2;rintro⟨a,vs,rfl,k1,k2⟩:q3;refine#[_,q1,.inl #[rfl,vs,DO.of k1.1],?_];rintro⟨U',B,R,z⟩:NZ S hA hg q1;exact#[U',B,R,z.imp λvs H' y=>hr _ _ _ _ y]
theorem FY{c:C}{ps:List P}(h:c.P8=some ps):c= .lst true ps:=by
 cases c with
 |lst o qs=>
   cases o with
   |true=>cases h;rfl
   |false=>cases h
 |_=>cases h
theorem ED{own bor:Addr->Prop}{ps qs:List P}{Q:VK}(h:AF W H own bor (.lst true ps) x)(q:ZR W H own bor (nw qs) x Q):∃l vs,x= .ref l/\H l=some (.lst vs)/\Cw W H ps vs/\∀ws u,Cw W H qs ws->Q u (upd H l (.lst ws)):=by
 rintro⟨a,vs,e,k1,k2⟩:h;refine#[a,vs,e,k1.1,k2,λws u r=>q a _ _ u k1.2 k1.1 EV #[a,ws,e,#[A6,k1.2],r.mono (BR k1.1 EV.1 EV.2.1)]]
theorem Uh{own:Nat->Addr->Prop}{bor:Addr->Prop}{c:C}(h:BB W H own bor 0 [c] vs):∃v,vs=[v]/\AF W H (own 0) bor c v:=by
 rintro⟨v,r,rfl,h1,h2⟩:h;exact#[v,by rw[show r=[]from h2],h1]
theorem Ow{own:Nat->Addr->Prop}{bor:Addr->Prop}{c d:C}(h:BB W H own bor 0 [c,d] vs):∃v u,vs=[v,u]/\AF W H (own 0) bor c v/\AF W H (own 1) bor d u:=by
 rintro⟨v,r,rfl,h1,u,r2,rfl,h2,h3⟩:h;exact#[v,u,by rw[show r2=[]from h3],h1,h2]
variable{cs:List C}
theorem OX{g:C->C->Option C}{c':C}(h:EJ g c cs=some c'):∃a,cs=[a]/\g c a=some c':=by
 unfold EJ at h;split at h
 .exact#[_,rfl,h]
 .cases h
theorem IA{g:C->C->C->Option C}{c':C}(h:Ds g c cs=some c'):∃a b,cs=[a,b]/\g c a b=some c':=by
 unfold Ds at h;split at h
 .exact#[_,_,rfl,h]
 .cases h
theorem Ph:∀x vs H Q,Gm W (EJ LF) x vs H Q->M5 x vs H Q:=by
 rintro x vs H Q ⟨own,bor,c,cs,c',h1,h2,e,q⟩
 rintro⟨a,rfl,e⟩:OX e;rintro⟨ps,ep,e⟩:Ab e;rintro⟨y,ey,e⟩:Ab e;rintro⟨hl,rfl⟩:A3 e;cases FY ep;cases C.BO ey;rintro⟨v,rfl,r⟩:Uh h2;rintro⟨l,ws,rfl,k1,k2,k3⟩:ED h1 q;have:=Paired.length k2;have:=Bw;exact#[l,ws,v,rfl,rfl,k1,by lia,k3 _ _ (Pd.append k2 (.cons r .nil))]
structure Walk(W:Wd)(J:It)(xs:List P)(g:Hp->Prop):Prop where
 go:∀i H,g H->i < xs.length->J.go i H
 LN:∀i H x H',g H->i < xs.length->J.LN i H x H'->Dc H H'/\∃p,xs[i]? =some p/\A5 W H' p x
 stop:∀H,g H->J.stop xs.length H
def wI(W:Wd)(k:Sq)(tl:TE):TI:=λY H R=>tl Y H λv H1=>∃c xs,Dj W H1 c v/\k c=some xs/\∀J,Walk W J xs (λH=>Dj W H c v)->R J H1
def XY(W:Wd)(k:Sq)(ta tb:TE):TI:=λY H R=>ta Y H λu H1=>tb Y H1 λv H2=>∃x y xs,A5 W H2 x u/\A5 W H2 y v/\k (.p (.tup [x,y]))=some xs/\∀J,Walk W J xs (λH=>A5 W H x u/\A5 W H y v)->R J H2
def cb(H H1:Hp)(c:C)(gc:Hp->Prop):Prop:=(∀H',Ext H1 H'->gc H')/\(c.own=true->∀H',AH H1 H'->(∀a x,H a=none->H1 a=some x->CB x=false->H' a=some x)->gc H')
def Src(W:Wd)(k:Sq)(F:Env->Res C)(wi:TI):Prop:=∀{Y:L2.St} {H:Hp} {R:It->Hp->Prop} {U:Env} {B:Addr->Prop} {c:C} {xs:List P},Kp W B H U Y->F U= .ok c->k c=some xs->(∀H1 gc J,Ext H H1->Bx W H1->cb H H1 c gc->Walk W J xs gc->R J H1)->wi Y H R
variable{W:Wd}
theorem Ip{k:Sq}{F:Env->Res C}:Src W k F (wI W k (tG W (rV W) F)):=λ{Y H R U B c xs} R0 eF ek h=>by
 refine#[U,B,R0,?_];rw[eF];intro v H1 e t r;refine#[c,xs,r.rd,ek,λJ hJ=>h H1 _ J e t #[λH' e'=>r.rd.ext e' (λ_ z=>z) λ_ z=>z,λho H' kp hn=>?_] hJ];exact AF.mono (D5 (bor':=λ_=>False) ho r λa x z _=>z) kp (λa x p q n=>#[hn a x p q n,trivial]) λa x p q n=>p.elim
theorem LZ{k:Sq}{F G:Env->Res C}:Src W k (λU=>(F U).bind λx=>(G U).bind λy=>Res.of (Gq x y)) (XY W k (tG W (rV W) F) (tG W (rV W) G)):=λ{Y H R U B c xs} R0 eF ek h=>by
 rintro⟨c1,e1,eF⟩:CA eF;rintro⟨c2,e2,eF⟩:CA eF;rintro⟨x,ex,e3⟩:Ab (OY eF);rintro⟨y,ey,rfl⟩:AU e3;cases C.BO ex;cases C.BO ey;refine#[U,B,R0,?_];rw[e1];intro u H1 f1 t1 r1;refine#[U,B,R0.ext f1 t1,?_];rw[e2];intro v H2 f2 t2 r2;refine#[x,y,xs,A5.mono f2.keep r1,r2,ek,λJ hJ=>h H2 _ J (f1.trans f2) t2 #[λH' e'=>?_,λ_ H' kp _=>?_] hJ]
 .exact#[A5.mono (f2.keep.trans e'.keep) r1,A5.mono e'.keep r2]
 .exact#[A5.mono (f2.keep.trans kp) r1,A5.mono kp r2]
def XF:List Nat->QS
 |[]=>Zx
 |i::is=>UD (Ew i) (XF is)
def gT(W:Wd):Tg->TG
 |.nm i=>Ew i
 |.tup is=>WY W.K is.length (XF is)
variable{as:List Nat}
theorem Aq.Oo{i:Nat}(S:Aq W Hin A0 Bo H U Y)(hi:i < Y.length)(hp:A5 W H p v):Aq W Hin A0 Bo H (U.set i (some (.p p))) (Y.set i (some v)):=S.set (c:=.p p) (B:=λ_=>True) (Ext.refl H) S.tb hi rfl hp
theorem Lj{Q:L2.St->Hp->Prop}:∀{is:List Nat} {ps:List P} {vs:List V} {U:Env} {Y:L2.St},Cw W H ps vs->is.length=ps.length->Aq W Hin A0 Bo H U Y->(∀i∈is,i < Y.length)->
 (∀Y',Aq W Hin A0 Bo H ((is.zip ps).foldl (λr q=>r.set q.1 (some (.p q.2))) U) Y'->AL is Y Y'->Q Y' H)->XF is vs Y H Q
 |[],_,_,U,Y,.nil,hl,S,hi,q=>#[rfl,q Y S (AL.refl _ _)]
 |[],_,_,_,_,.cons _ _,hl,_,_,_=>by cases hl
 |i::is,_,_,_,_,.nil,hl,_,_,_=>by cases hl
 |i ::is,_,_,U,Y,.cons h1 h2,hl,S,hi,q=>⟨_,_,rfl,Lj h2 (Nat.succ.inj hl) (S.Oo (hi i mS) h1) (λj hj=>by rw[length_set];exact hi j (mem_cons_of_mem _ hj)) λY' s w=>
     q Y' s ((AL.set mS).trans (w.mono λj hj=>mem_cons_of_mem _ hj))⟩
theorem Zv{Q:L2.St->Hp->Prop}{g:Tg}{U':Env}(e:Cs g p U=some U')(hp:A5 W H p v)(S:Aq W Hin A0 Bo H U Y)(hi:∀i∈g.slots,i < Y.length)(q:∀Y',Aq W Hin A0 Bo H U' Y'->AL g.slots Y Y'->Q Y' H):gT W g v Y H Q:=by
 cases g with
 |nm i=>
   cases e;exact q _ (S.Oo (hi i mS) hp) (AL.set mS)
 |tup is=>
   rintro⟨ps,e1,e⟩:Ab e;rintro⟨hl,rfl⟩:A3 e;cases P.Bs e1;rintro⟨a,vs,rfl,s1,r1⟩:A9.mp hp;exact#[a,vs,rfl,s1,by rw[<-Paired.length r1,<-hl],Lj r1 hl S hi q]
theorem F4{g:Tg}{bs:List Nat}{B:Env->Fl}{J:It}{xs:List P}{gc:Hp->Prop}(hJ:Walk W J xs gc)(hgc:∀H' U' Y',Aq W Hin A0 Bo H' U' Y'->gc H')(hi:∀i∈g.slots,i < Y.length)(S:Aq W Hin A0 Bo H U Y)(hA:Bh W Hin A0 Bo (g.slots++bs) D Y (forL g B xs U)):
 ∃Wv:Nat->Nat->L2.St->Hp->Prop,(∃m,Wv 0 m Y H)/\∀i m Y' H',Wv i m Y' H'->(J.stop i H'/\D.nx Y' H')\/(J.go i H'/\∃N:L2.St->Hp->Prop,(∀Y2 H2,N Y2 H2->∃m',m' < m/\Wv (i+1) m' Y2 H2)/\∀x H2,J.LN i H' x H2->gT W g x Y' H2 λY3 H3=>tS W bs B {nx:=N,rt:=D.rt,bk:=D.nx,ct:=N} Y3 H3):=by
 refine#[λi m Y' H'=>m=xs.length-i/\i<=xs.length/\∃U',Aq W Hin A0 Bo H' U' Y'/\AL (g.slots++bs) Y Y'/\Bh W Hin A0 Bo (g.slots++bs) D Y' (forL g B (xs.drop i) U'),#[xs.length,rfl,Nat.zero_le _,U,S,AL.refl _ _,hA],?_]
 rintro i m Y' H' ⟨rfl,hix,U',S',hU,hA'⟩
 have hg:=hgc H' U' Y' S';have m1:∀i∈g.slots,i∈g.slots++bs:=λi hi=>mL hi
 have m2:∀i∈bs,i∈g.slots++bs:=λi hi=>mR hi
 by_cases hlt:i < xs.length
 .rw[drop_eq_getElem_cons hlt]at hA';refine .inr #[hJ.go i H' hg hlt,λY2 H2=>∃U',Aq W Hin A0 Bo H2 U' Y2/\AL (g.slots++bs) Y Y2/\Bh W Hin A0 Bo (g.slots++bs) D Y2 (forL g B (xs.drop (i+1)) U'),λY2 H2 z=>#[xs.length-(i+1),by lia,rfl,hlt,z],λx H2 hy=>?_];rintro⟨s2,p,ep,rp⟩:hJ.LN i H' x H2 hg hlt hy;have ep:xs[i]=p:=by rw[List.getElem?_eq_getElem hlt]at ep;exact Option.some.inj ep
  rw[ep]at hA';have S2:=S'.ext (.of s2) (S'.tb.same s2);replace hA':Bh W Hin A0 Bo (g.slots++bs) D Y' (match Cs g p U' with|some U1=>(B U1).turn (forL g B (xs.drop (i+1)))|none=>.stuck):=hA';cases es:Cs g p U' with
  |none=>rw[es]at hA';exact hA'.elim
  |some U2=>
    rw[es]at hA';refine Zv es rp S2 (λj hj=>by rw[hU.1];exact hi j hj) λY3 S3 w3=>#[Hin,A0,Bo,U2,S3,?_]
    have h3:=Bh.later (r:=(B U2).turn (forL g B (xs.drop (i+1)))) hA' (w3.mono m1);have hU3:=hU.trans (w3.mono m1);cases eB:B U2 with
    |nx U4=>rw[eB]at h3;exact λY4 H4 s w=>#[U4,s,hU3.trans (w.mono m2),Bh.later (r:=forL g B (xs.drop (i+1)) U4) h3 (w.mono m2)]
    |stuck=>rw[eB]at h3;exact h3
    |ret c=>rw[eB]at h3;exact h3
 .have e:i=xs.length:=by lia
  subst e;rw[List.drop_length]at hA';exact .inl #[hJ.stop H' hg,hA' Y' H' S' (AL.refl _ _)]
section
variable{H1 H2:Hp}{U2:Env}{Y2:L2.St}{w:Addr->Prop}
theorem Aq.congr{U':Env}(S:Aq W Hin A0 Bo H U Y)(h:∀j,A8 U' j=A8 U j)(hl:U'.length=U.length):Aq W Hin A0 Bo H U' Y:=
 #[S.len.trans hl.symm,S.tb,let⟨O,k⟩:=S.env;#[O,λi c q=>k i c (by rw[<-h];exact q)],S.bo,S.EZ,S.FN,S.kp]
def ownIn(Hin:Hp)(A0:Addr->Prop)(H:Hp)(w:Addr->Prop):Addr->Prop:=λb=>(∃x,H b=some x)/\(Hin b=none\/A0 b)/\¬w b
theorem Aq.Sn(S:Aq W Hin A0 Bo H U Y){j:Nat}(h:Bo j a):¬ownIn Hin A0 H w a:=λz=>by
 rintro⟨⟨x,q⟩,n⟩:S.bo j a h;rcases z.2.1 with k|k
 .rw[k]at q;cases q
 .exact n k
theorem Aq.into(S:Aq W Hin A0 Bo H U Y)(e:Ext H H1)(t:Bx W H1):Aq W H1 (ownIn Hin A0 H λ_=>False) Bo H1 U Y:=by
 rintro⟨O,h⟩:S.env;refine#[S.len,t,#[O,λi c q=>?_],λi a z=>#[?_,S.Sn z],λb x q _ _=>q,λb x q=>#[x,q],AH.refl _]
 .obtain⟨v,q1,q2⟩:=h i c q;exact#[v,q1,q2.mono e.keep (λa x p k n=>#[e.but a x k n,p.1,.inr #[#[x,k],p.2,id]]) λa x p k n=>#[e.but a x k n,p]]
 .obtain⟨⟨x,q⟩,_⟩:=S.bo i a z;rintro⟨y,q⟩:S.FN a x q;exact e.there a y q
variable{Bo':Nat->Addr->Prop}
theorem Aq.YU(S:Aq W Hin A0 Bo H U Y)(e:Ext H H1)(S2:Aq W H1 (ownIn Hin A0 H w) Bo' H2 U2 Y2):(∀b x,Hin b=some x->¬A0 b->CB x=false->H2 b=some x)/\(∀b x,Hin b=some x->∃y,H2 b=some y)/\AH Hin H2/\∀b,(H1 b=none\/ownIn Hin A0 H w b)->Hin b=none\/A0 b:=
 ⟨λb x q n nt=>S2.EZ b x (e.but b x (S.EZ b x q n nt) nt) (λz=>by
     rcases z.2.1 with k|k
     .rw[k]at q;cases q
     .exact n k) nt,λb x q=>let⟨y,q⟩:=S.FN b x q;let⟨z,q⟩:=e.there b y q;S2.FN b z q,(S.kp.trans e.keep).trans S2.kp,λb z=>z.elim (λk=>.inl (S.new (e.none k))) λk=>k.2.1⟩
theorem Aq.out(S:Aq W Hin A0 Bo H U Y)(e:Ext H H1)(S2:Aq W H1 (ownIn Hin A0 H λ_=>False) Bo H2 U2 Y2):Aq W Hin A0 Bo H2 U2 Y2:=by
 rintro⟨f1,f2,f3,f4⟩:S.YU e S2;rintro⟨O,h⟩:S2.env;refine#[S2.len,S2.tb,#[O,λi c q=>?_],S.bo,f1,f2,f3];rintro⟨v,q1,q2⟩:h i c q;exact#[v,q1,q2.ext (Ext.refl _) (λa z=>#[z.1,f4 a z.2]) λ_ z=>z]
theorem DB.out(S:Aq W Hin A0 Bo H U Y)(e:Ext H H1)(r:DB W H1 (ownIn Hin A0 H w) c v H2):DB W Hin A0 c v H2:=by
 rintro⟨r1,r2,r3,r4,r5⟩:r;refine#[r1.ext (Ext.refl _) (λa z=>z.elim (λk=>.inl (S.new (e.none k))) λk=>k.2.1) λ_ z=>z,r2,λb x q n nt=>r3 b x (e.but b x (S.EZ b x q n nt) nt) (λz=>?_) nt,λb x q=>?_,(S.kp.trans e.keep).trans r5]
 .rcases z.2.1 with k|k
  .rw[k]at q;cases q
  .exact n k
 .obtain⟨y,q⟩:=S.FN b x q;rintro⟨z,q⟩:e.there b y q;exact r4 b z q
theorem IU{Hin':Hp}{A0':Addr->Prop}{f:Env->Env}{r:Fl}(h:Bh W Hin A0 Bo as D Y (r.fin f))(hs:∀U2 Y2 H2,Aq W Hin' A0' Bo' H2 U2 Y2->AL as Y Y2->Aq W Hin A0 Bo H2 (f U2) Y2)(hr:∀c v H2,DB W Hin' A0' c v H2->DB W Hin A0 c v H2):Bh W Hin' A0' Bo' as D Y r:=by
 cases r with
 |nx U2=>exact λY2 H2 s u=>h Y2 H2 (hs U2 Y2 H2 s u) u
 |ret c=>exact λv H2 r=>h v H2 (hr c v H2 r)
 |stuck=>exact h.elim
theorem YC{k:Sq}{g:Tg}{bs:List Nat}{F:Env->Res C}{B:Env->Fl}{wi:TI}(hw:Src W k F wi)(hi:∀i∈g.slots,i < Y.length)(h:tS W (g.slots++bs) (λU=>(F U).fl λc=>match k c with|some xs=>if c.own then(forL g B xs U).fin id else .stuck|none=>.stuck) D Y H):
 Vd wi (gT W g) (tS W bs B) D Y H:=by
 rintro⟨Hin,A0,Bo,U,S,hA⟩:h;cases eF:F U with
 |stuck=>simp only[eF]at hA;exact hA.elim
 |ok c=>
   simp only[eF,Res.fl]at hA;cases ek:k c with
   |none=>rw[ek]at hA;exact hA.elim
   |some xs=>
     simp only[ek]at hA;split at hA
     case isFalse=>exact hA.elim
     rename_i ho;refine hw S.rev eF ek λH1 gc J e t st hJ=>F4 (A0:=ownIn Hin A0 H λ_=>False) (Bo:=Bo) hJ (λH' U' Y' S'=>?_) hi (S.into e t) (IU (f:=id) hA (λU2 Y2 H2 s u=>S.out e s) λc v H2 z=>DB.out S e z)
     exact st.2 ho H' S'.kp λa x p q n=>S'.EZ a x q (λz=>by rintro⟨⟨y,z⟩,_⟩:z;rw[p]at z;cases z) n
theorem Vy{k:Sq}(hk:∀o kvs,k (.Bl o kvs)=none)(hk2:∀o fs,k (.obj o fs)=none){g:Tg}{bs:List Nat}{i:Nat}{B:Env->Fl}(hi:∀i∈g.slots,i < Y.length)(h:tS W (g.slots++bs) (λU=>match(A8 U i).bind λc=>k c.bor with
 |some xs=>if(g.slots++bs).contains i then .stuck else(forL g B xs (U.set i ((A8 U i).map C.bor))).fin (R5 (A8 U i) i)
 |none=>.stuck) D Y H):Vd (wI W k (EO i)) (gT W g) (tS W bs B) D Y H:=by
 rintro⟨Hin,A0,Bo,U,S,hA⟩:h;rintro⟨O,hO⟩:S.env;cases hg:A8 U i with
 |none=>simp only[hg]at hA;exact hA.elim
 |some c=>
   simp only[hg,Option.bind_some,Option.map_some]at hA;cases ek:k c.bor with
   |none=>simp only[ek]at hA;exact hA.elim
   |some xs =>
     simp only[ek]at hA;split at hA
     .exact hA.elim
     rename_i hni;have hni:i∉g.slots++bs:=λz=>hni (by simpa using z)
     rintro⟨v,q1,q2⟩:hO i c hg;have hil:=IM hg;cases hl:c.SQ with
     |false=>
       have eb:c.bor=c:=by
        cases c with
        |lst o ps=>cases (show o=false from hl);rfl
        |Bl o ps=>rw[show(C.Bl o ps).bor= .Bl false ps from rfl,hk]at ek;cases ek
        |obj o ps=>rw[show(C.obj o ps).bor= .obj false ps from rfl,hk2]at ek;cases ek
        |p x=>rfl
       have hu:R5 (some c) i=id:=funext λU=>by unfold R5;rw[Option.any_some,hl];rfl
       rw[eb,hu]at hA
       have S1:=(S.into (Ext.refl H) S.tb).congr (U':=U.set i (some c)) (λj=>by
        rw[Cq];split
        .rename_i hij;subst hij;exact hg.symm
        .rfl) (length_set ..)
       refine#[v,q1,c.bor,xs,(q2.rd).borrow λ_ z=>z,ek,λJ hJ=>F4 (A0:=ownIn Hin A0 H λ_=>False) (Bo:=Bo) hJ (λH' U' Y' S'=>?_) hi S1 (IU (f:=id) hA (λU2 Y2 H2 s u=>S.out (Ext.refl H) s) λc v H2 z=>DB.out S (Ext.refl H) z)];rw[eb];cases c with
       |p x=>exact A5.mono S'.kp q2
       |obj o ps=>rw[show(C.obj o ps).bor= .obj false ps from rfl,hk2]at ek;cases ek
       |lst o ps=>
         cases (show o=false from hl);exact AF.mono (own:=λ_=>False) (bor:=Bo i) q2 S'.kp (λ_ _ z=>z.elim) λa x p q n=>#[S'.EZ a x q (S.Sn p) n,trivial]
       |Bl o ps=>rw[show(C.Bl o ps).bor= .Bl false ps from rfl,hk]at ek;cases ek
     |true=>
       rintro⟨ps,rfl⟩:PN hl;rintro⟨a,vs,rfl,⟨k1,k2,k3⟩,k4⟩:q2;have hu:R5 (some (.lst true ps)) i=λU=>U.set i ((A8 U i).map C.cJ):=rfl
       rw[hu]at hA
       let w:Addr->Prop:=λb=>b=a
       let Bo':Nat->Addr->Prop:=λj b=>Bo j b\/(j=i/\b=a)
       have na:¬ownIn Hin A0 H w a:=λz=>z.2.2 rfl
       have S1:Aq W H (ownIn Hin A0 H w) Bo' H (U.set i (some (.lst false ps))) Y:=by
        refine#[by rw[length_set];exact S.len,S.tb,#[O,λj d q=>?_],λj b z=>?_,λb x q _ _=>q,λb x q=>#[x,q],AH.refl _]
        .rw[Cq]at q;split at q
         .rename_i hij;subst hij;cases q;exact#[_,q1,a,vs,rfl,.inl #[k1,.inr #[rfl,rfl]],k4]
         .rename_i hij;rintro⟨u,r1,r2⟩:hO j d q;exact#[u,r1,r2.mono (AH.refl _) (λb x p k n=>#[k,p.1,.inr #[#[x,k],p.2,λz=>hij (by rw[<-k2,<-p.1,show b=a from z])]]) λb x p k n=>#[k,.inl p]]
        .rcases z with z|⟨_,rfl⟩
         .obtain⟨⟨x,q⟩,_⟩:=S.bo j b z;exact#[S.FN b x q,S.Sn z]
         .exact#[#[_,k1],na]
       refine#[_,q1,.lst false ps,xs,#[a,vs,rfl,.inl #[k1,trivial],k4],ek,λJ hJ=>F4 (A0:=ownIn Hin A0 H w) (Bo:=Bo') hJ (λH' U' Y' S'=>#[a,vs,rfl,.inl #[S'.EZ a _ k1 na rfl,trivial],k4.mono S'.kp]) hi S1 (IU hA (λU2 Y2 H2 s u=>?_) λc v H2 z=>DB.out S (Ext.refl H) z)];rintro⟨f1,f2,f3,f4⟩:S.YU (Ext.refl H) s;rintro⟨O2,h2⟩:s.env;have e2:H2 a=some (.lst vs):=s.EZ a _ k1 na rfl;have eY:Y2[i]? =some (some (.ref a)):=by rw[u.2 i hni];exact q1
       refine#[by rw[length_set];exact s.len,s.tb,#[λb=>if b=a then i else O2 b,λj d q=>?_],S.bo,f1,f2,f3];rw[Cq]at q;split at q
       .rename_i hij;subst hij;split at q
        case isFalse=>cases q
        rintro⟨d0,ed,rfl⟩:AU q;rintro⟨u',r1,r2⟩:h2 i d0 ed;rw[eY]at r1;cases r1;refine#[_,eY,?_];cases d0 with
        |p x=>exact r2
        |obj o fs=>
          rintro⟨b,dx,ws,eb,r3,r4⟩:r2;cases eb;exact absurd (e2.symm.trans r3) λz=>HO.noConfusion (Option.some.inj z)
        |lst o qs=>
          rintro⟨b,ws,eb,r3,r4⟩:r2;cases eb;refine#[a,ws,rfl,?_,r4];cases o with
          |true=>
            rcases r3.2.2 with z|z
            .rw[k1]at z;cases z
            .exact absurd z na
          |false=>
            rcases r3 with r3|⟨ob,r3⟩
            .exact#[r3.1,iP rfl,k3]
            .rw[e2]at r3;cases r3
        |Bl o qs=>
          rintro⟨b,ws,eb,r3,r4⟩:r2;cases eb;refine#[a,ws,rfl,?_,r4];cases o with
          |true=>exact absurd (e2.symm.trans r3.1) λz=>HO.noConfusion (Option.some.inj z)
          |false=>
            rcases r3 with r3|r3
            .exact absurd (e2.symm.trans r3.1) λz=>HO.noConfusion (Option.some.inj z)
            .exact .inr r3
       .rename_i hij;rintro⟨u',r1,r2⟩:h2 j d q;refine#[u',r1,r2.mono (AH.refl _) (λb x p k n=>#[k,?_,f4 b p.2]) λb x p k n=>#[k,p.resolve_right λz=>hij z.1.symm]]
        have hb:b≠a:=λz=>by
         subst z;rcases p.2 with z|z
         .rw[k1]at z;cases z
         .exact na z
        show(if b=a then i else O2 b)=j;rw[iN hb];exact p.1
end
end Nv
namespace Nv
open PySem PySem.Spec L2 PyProof.Rows
section
variable{prog:Program}{w:World}{A:Around}{R:Result->Shared->Prop}{s:Shared}
abbrev tests(ifs:List Expr)(env:PySem.Env):Sem Bool:=forIn ifs true λc r=>if r=true then do let ok <-isTrue c env (eval c env);pure (ForInStep.yield ok)else pure (ForInStep.yield r)
theorem L5{elt target iter:Expr}{ifs:List Expr}{scope:Scope}{pos:Pos}{it acc:Value}{env:PySem.Env}(I:Nat->Shared->Prop)
 (turn : ∀n s,I n s->wpAny (model prog w) A (pyNext it) (λr s₁=>match r with
  |none=>R (.ok .next) s₁
  |some v=>wpAny (model prog w) A (letOwnedTupleGo target it v) (λ_ s₀=>wpAny (model prog w) A (assign target env v) (λ_ s₂=>wpAny (model prog w) A (tests ifs env) (λok s₃=>
   if ok=true then wpAny (model prog w) A (eval elt env) (λx s₄=>
    wpAny (model prog w) A (call (.builtin "list.append") [acc,x]) (λ_ s₅=>∃m,m < n/\I m s₅) (λ_ _=>False) s₄) (λ_ _=>False) s₃ else ∃m,m < n/\I m s₃) (λ_ _=>False) s₂) (λ_ _=>False) s₀) (λ_ _=>False) s₁) (λ_ _=>False) s)
 (n:Nat)(h:I n s):codeAny (model prog w) A (.compLoop (.ListComp elt [#[target,iter,ifs,0]] scope pos) 0 it acc env) R s:=by
 refine codeAny_loop rfl I (λn s hI=>?_) n h;show wpAny _ _ ((compTurn (.ListComp elt [#[target,iter,ifs,0]] scope pos) 0 it acc env).onRaise (λx=>noteFrame x env >>= λ_=>theTreesLotGoes x)) _ _ s;refine wpAny_noted ?_;rw[compTurn_list];refine wB (wpAny_standAt (wB (wpAny_mono (turn n s hI) (λr s₁ h₁=>?_) λ_ _ z=>z.elim)));cases r with
 |none=>exact wpAny_pure h₁
 |some v=>
   refine wB (wpAny_mono h₁ (λ_ s₀ h₀=>wB (wpAny_mono h₀ (λ_ s₂ h₂=>wB (wpAny_mono h₂ (λok s₃ h₃=>?_) λ_ _ z=>z.elim)) λ_ _ z=>z.elim)) λ_ _ z=>z.elim);cases ok with
   |true=>
     rw[iP rfl]at h₃;exact wB (wB (wpAny_mono h₃ (λx s₄ h₄=>wB (wpAny_mono h₄ (λ_ s₅ h₅=>wpAny_pure (wpAny_pure #[rfl,h₅])) λ_ _ z=>z.elim)) λ_ _ z=>z.elim))
   |false=>
     rw[iN Bool.false_ne_true]at h₃;exact wpAny_pure #[rfl,h₃]
end
section
variable{X:Cx}{elt iter tg:Expr}{ifs:List Expr}{scope:Scope}{pos:Pos}{N:List Str}{fr:List (Option Nat)}{g:TG}{te:TE}{tc:TT}{wi:TI}
def Xo(X:Cx)(ifs:List Expr)(t:TT):Prop:=
 ∀(p0:Oa) (s:Shared) (Y:L2.St) (H:Hp) (Q:Bool->Hp->Prop),∅->t Y H Q->(X|||(tests ifs X.env)) (TP X p0 Y Q) X.xe s
theorem RW:Xo X [] (λY H Q=>Q true H):=λp0 s Y H Q I h=>wpAny_tests_nil #[H,I,h]
theorem RU(h:PT X c tc):Xo X [c] tc:=λp0 s Y H Q I k=>wpAny_tests_one (h p0 s Y H Q I k)
def QG(J:It)(g:TG)(tc:TT)(te:TE)(Y0:L2.St)(H0:Hp)(Q:List V->Hp->Prop):Prop:=∃W:Nat->List V->Nat->L2.St->Hp->Prop,(∃m,W 0 [] m Y0 H0)/\∀i acc m Y' H',W i acc m Y' H'->
 (J.stop i H'/\Q acc H')\/(J.go i H'/\acc.length < sizeLine/\∀x H2,J.LN i H' x H2->g x Y' H2 λY2 H3=>tc Y2 H3 λb H4=>if b=true then te Y2 H4 λy H5=>∃m',m' < m/\W (i+1) (acc++[y]) m' Y2 H5 else ∃m',m' < m/\W (i+1) acc m' Y2 H4)
theorem Qx{p0:Oa}{Y:L2.St}{H:Hp}{s:Shared}{J:It}{fp:List Addr}{it:Addr}{tn:Nat->Heap->Prop}{Q:List V->Hp->Prop}{E:Va}(hc:X.calm=true)(ok:De X.N X.env.scope N scope fr)
 (hb:∀C s H fp,PG (AQ X N scope C s H fp) tg g/\PE (AQ X N scope C s H fp) elt te/\Xo (AQ X N scope C s H fp) ifs tc)(I:∅)(T:Turn X.prog X.w X.K tg J fp it tn)(t0:tn 0 s.heap)(hf:∀b∈fp,Fe X p0 H b)
 (hW:QG J g tc te (Dz fr Y) H Q):
 (X|||(newList [])) (λacc s₃=>(X|||(newFunctionEnv scope X.env.globals (GR X.env.cells scope.names []) [] X.env.qual none .none (some X.env))) (λcenv s₄=>
  codeAny (model X.prog X.w) X.A (.compStart (.ListComp elt [#[tg,iter,ifs,0]] scope pos) 0 (.ref it) acc {cenv with scope:=relabel scope X.env}) (CompEnd X p0 Y Q acc cenv.locals) s₄) E s₃) E s:=by
 have hfl:∀b∈fp,b < s.heap.objs.size:=λb hb=>by
  rintro⟨o,e,_⟩:T.obj 0 _ t0 b hb;exact hZ e
 refine wpAny_newObj_type (wpAny_newFunctionEnv ok.CI (by intro y hy;simp at hy) (λh₁ hns₁ hsb₁=>?_) ok.kind);dsimp only at hns₁ hsb₁ ⊢;generalize hH2:s.heap.push {cls:=.type "list",dict:=none,data:=.seq ([]:List Value).toArray}=H2 at hns₁ hsb₁ ⊢;have hC:H2.objs.size=s.heap.objs.size+1:=by rw[<-hH2,Heap.size_push]
 have hDC:s.heap.objs.size≠H2.objs.size:=by rw[hC];exact Nat.ne_of_lt (Nat.lt_succ_self _)
 have hCle:s.heap.objs.size<=H2.objs.size:=by rw[hC];exact Nat.le_succ _
 have old:∀b o,s.heap.get? b=some o->h₁.get? b=some o:=λb o e=>
  hsb₁.extBut b o (by rw[hC];exact Nat.ne_of_lt (Nat.lt_succ_of_lt (hZ e))) (gP (hH2▸gP e))
 have hacc:h₁.get? s.heap.objs.size=some {cls:=.type "list",dict:=none,data:=.seq ([]:List Value).toArray}:=hsb₁.extBut _ _ hDC (gP (hH2▸Heap.get?_push_size _ rfl));rintro⟨W,⟨m0,w0⟩,turn⟩:hW;rintro⟨hg,he,ht⟩:hb H2.objs.size s H fp;have I1:=Qm (N:=N) (fr:=fr) (tk:=s.toks+([]:List (Str×Value)).length) I ok hf hfl hCle hns₁ old;have hDfp:s.heap.objs.size∉fp:=λz=>Nat.lt_irrefl _ (hfl _ z)
 have fpx:∀{H':Hp} {ps:Oa},(∀b∈fp,H' b=none)->(∀p∈ps,p.1=s.heap.objs.size)->∀b∈fp,Fe (AQ X N scope H2.objs.size s H fp) ps H' b:=λ{H' ps} hn hp b hb=>
  ⟨hn b hb,(I1.ok.da b hb).1,I1.ok.X5 b hb,.inl hb,(I1.ok.da b hb).2,λp hp' z=>by
   have hp':p∈([]:Oa)++ps:=hp';rw[List.nil_append]at hp'
   exact hDfp (by rw[<-hp p hp',z];exact hb)⟩
 have loop :∀s₃:Shared,s₃={s with heap:=h₁,toks:=s.toks + ([]:List (Str×Value)).length}->
  codeAny (model X.prog X.w) X.A (.compLoop (.ListComp elt [#[tg,iter,ifs,0]] scope pos) 0 (.ref it) (.ref s.heap.objs.size) (compEnvC scope (GR X.env.cells scope.names []) H2.objs.size X.env))
   (CompEnd X p0 Y Q (.ref s.heap.objs.size) H2.objs.size) s₃:=by
  rintro s₃ rfl
  refine L5 (λn s'=>∃i acc its k Y' H',Inv (AQ X N scope H2.objs.size s H fp) [(s.heap.objs.size,({cls:=.type "list",data:=.seq its k}:Obj))] Y' H' s'/\tn i s'.heap/\(∀b∈fp,H' b=none)/\acc.length<=sizeLine/\Vals acc its.toList/\W i acc n Y' H') ?_ m0
   #[0,[],[].toArray,0,Dz fr Y,H,?_,?_,λb hb=>(hf b hb).1,Nat.zero_le _,.nil,w0]
  .rintro n s3 ⟨i,acc,its,k,Y3,H3,I3,st3,fr3,hz3,va3,w3⟩
   have pinD:=I3.pin _ (mR mS);rcases turn i acc n Y3 H3 w3 with⟨stop,q⟩|⟨go,hlen,step⟩
   .refine AS (T.done (AQ X N scope H2.objs.size s H fp) rfl rfl rfl hc i _ s3 Y3 H3 _ I3 (fpx fr3 (by simp)) st3 stop) λr s4 ⟨hr,I4⟩=>?_
    subst hr;have p4:=I4.pin _ (mR mS);have J4:Inv X p0 Y H3 s4:=I.ZF (ch:=fp) I4.os I4.base I4.Aj I4.bare λb hb=>#[(hf b hb).2.2.2.1,(hf b hb).2.1,(hf b hb).2.2.2.2.1,(hf b hb).2.2.2.2.2]
    have fD:Fe X p0 H3 s.heap.objs.size:=I.Ll (Nat.le_refl _) p4.2.1;have e4:s4.heap.get? s.heap.objs.size=some {cls:=.type "list",data:=.seq its.toList.toArray k}:=by simpa using p4.1
    refine#[rfl,_,H3,acc,rfl,p4.2.1,J4.Yg fD hz3 va3 e4,?_,I.Ll hCle ?_,q]
    .obtain⟨m,hn,_⟩:=I4.loc;exact#[m,hn]
    .rw[A4 (Ne.symm hDC)];exact I4.free
   .refine AS (T.item (AQ X N scope H2.objs.size s H fp) rfl rfl rfl hc i _ s3 Y3 H3 _ I3 (fpx fr3 (by simp)) st3 go) λr s4 ⟨u,hr,h4⟩=>?_
    subst hr;refine AS h4 λ_ s5 ⟨x,H5,I5,r5,y5,st5,fr5⟩=>?_
    have I5':=I5.pinned (fpx fr5 (by simp)) (T.obj _ _ st5);refine AS (hg _ s5 Y3 H5 x u _ I5' r5 (step x H5 y5)) λ_ s6 ⟨Y6,H6,I6,q6⟩=>?_
    refine AS (ht _ s6 Y6 H6 _ I6 q6) λok s6' ⟨H6',I6',q6'⟩=>?_
    cases ok with
    |false=>
      rw[iN Bool.false_ne_true]at q6' ⊢;rintro⟨m',hm,w7⟩:q6';have p7:=I6'.pin _ (mR (mL mS));refine#[m',hm,i+1,acc,its,k,Y6,H6',?_,?_,λb hb=>?_,hz3,va3,w7]
      .refine(I6'.D4 (pins':=[]) λp hp=>absurd hp (by simp)).D4 λp hp=>?_
       have:p=(s.heap.objs.size,({cls:=.type "list",data:=.seq its k}:Obj)):=by simpa using hp
       subst this;exact p7
      .refine T.keep _ _ _ st5 λb hb o e=>?_
       exact(I6'.pin (b,o) (mR (mR (C3 hb e)))).1
      .obtain⟨o,e,d⟩:=T.obj _ _ st5 b hb;exact(I6'.pin (b,o) (mR (mR (C3 hb e)))).2.1
    |true=>
    rw[iP rfl]at q6' ⊢;refine AS (he _ s6' Y6 H6' _ I6' q6') λy s7 ⟨z,H7,I7,r7,q7⟩=>?_
    rintro⟨m',hm,w7⟩:q7;have p7:=I7.pin _ (mR (mL mS));have hsz:its.size=acc.length:=by rw[va3.length];simp
    refine wpAny_list_append_plain (hsz:=by rw[hsz];exact hz3) #[k,p7.1] λh₅ hl₅ hs₅=>?_
    rintro⟨k',e5⟩:hl₅;refine#[m',hm,i+1,acc++[z],its.push y,k',Y6,H7,?_,?_,λb hb=>?_,?_,?_,w7]
    .have J7:Inv (AQ X N scope H2.objs.size s H fp) [] Y6 H7 s7:=I7.D4 λp hp=>absurd hp (by simp)
     have J8:Inv (AQ X N scope H2.objs.size s H fp) [] Y6 H7 {s7 with heap:=h₅}:=by
      refine J7.turned (t':=s7.toks) (it:=s.heap.objs.size) (λb o hb e=>(hs₅.2 b hb).trans e) p7.2.1 p7.2.2.1 (.inr (Nat.le_refl _)) (λx c e z=>?_) λp hp=>absurd (show p∈([]:Oa)from hp) (by simp)
      rintro⟨v,oc,hoc,hod⟩:J7.cell x c e;rw[z,p7.1]at hoc;cases hoc;cases hod
     refine J8.D4 λp hp=>?_
     have:p=(s.heap.objs.size,({cls:=.type "list",data:=.seq (its.push y) k'}:Obj)):=by simpa using hp
     subst this;exact#[e5,p7.2.1,p7.2.2.1,p7.2.2.2.1,λv z=>by cases z]
    .refine T.keep _ _ _ st5 λb hb o e=>?_
     have q:=(I7.pin (b,o) (mR (mR (C3 hb e)))).1;exact(hs₅.2 b (λz=>hDfp (z▸hb))).trans q
    .obtain⟨o,e,d⟩:=T.obj _ _ st5 b hb;exact(I7.pin (b,o) (mR (mR (C3 hb e)))).2.1
    .rw[lA,lS];exact hlen
    .rw[Array.toList_push];exact Vals.append va3 (.cons r7 .nil)
  .refine I1.D4 λp hp=>?_
   have:p=(s.heap.objs.size,({cls:=.type "list",data:=.seq [].toArray 0}:Obj)):=by simpa using hp
   subst this
   exact⟨hacc,I.Aj.fresh (Nat.le_refl _),hDC,λz=>I.Wn (Nat.le_refl _) (by
    rcases mem_cons.mp (I.Ge _ z)with e|e
    .exact absurd I.lt (by rw[<-e];exact Nat.lt_irrefl _)
    .exact e),λv z=>by cases z⟩
  .exact T.keep _ _ _ t0 λb _ o e=>old b o e
 refine codeAny_compStart_list (loop _ rfl) ?_;exact T.self _ 0 _ _ _ (T.keep _ _ _ t0 λb _ o e=>old b o e) (loop _ rfl)
def Ik(wi:TI)(g:TG)(tc:TT)(te:TE)(fr:List (Option Nat)):TE:=λY H Q=>wi Y H λJ H1=>QG J g tc te (Dz fr Y) H1 λxs H'=>∀p,H' p=none->Q (.ref p) (upd H' p (.lst xs))
theorem OR(N:List Str)(fr:List (Option Nat))(hc:X.calm=true)(ok:De X.N X.env.scope N scope fr)(hi:PI X tg iter wi)(hb:∀C s H fp,PG (AQ X N scope C s H fp) tg g/\PE (AQ X N scope C s H fp) elt te/\Xo (AQ X N scope C s H fp) ifs tc)
 (hs:∀x,foldedSetIterable iter X.env x=pure x:=by intro _;rfl):PE X (.ListComp elt [#[tg,iter,ifs,0]] scope pos) (Ik wi g tc te fr):=by
 intro p0 s Y H Q I h;rw[eval_ListComp];refine wpAny_comprehension_free (use:=none) rfl hs (Cr λy hy e=>I.ok.has y.1 (ok.free y hy e)) ok.kind ok.own ?_;refine AS (hi p0 s Y H _ I h) λv s1 h1=>AS h1 λitv s2 h2=>?_
 rintro⟨it,fp,tn,J,H2,e,I2,T,st2,f2,hW⟩:h2;subst e;refine AS (Qx (pos:=pos) (iter:=iter) (E:=X.xe) hc ok hb I2 T st2 f2 hW) λacc s3 h3=>AS h3 λcenv s4 h4=>?_
 refine codeAny_mono h4 λr s5 h5=>?_
 rintro⟨rfl,D,H',xs,rfl,hD,I5,⟨m,hn⟩,fC,q⟩:h5;refine#[m,hn,λh' hs'=>#[.ref D,_,I5.turned (t':=s5.toks) (it:=cenv.locals) (λb o hb e=>(hs'.2 b hb).trans e) fC.1 fC.2.1 fC.2.2.2.1 fC.2.2.2.2.1 fC.2.2.2.2.2,rfl,q D hD]]
theorem OF{i:Nat}{y:Str}{py spos:Pos}(N:List Str)(fr:List (Option Nat))(hN:X.N.Nodup)(hy:X.N[i]? =some y)(hl:X.env.scope.names.lookup y=some .local)(hc:X.calm=true)(ok:De X.N X.env.scope N scope fr)(hi:PI X tg iter wi)
 (hb:∀C s H fp,PG (AQ X N scope C s H fp) tg g/\PE (AQ X N scope C s H fp) elt te/\Xo (AQ X N scope C s H fp) ifs tc)
 (hsw:swapsWith (.ListComp elt [#[tg,iter,ifs,0]] scope pos) (some (.Name y py)) spos.line X.env=pure true:=by rfl)
 (hs:∀x,foldedSetIterable iter X.env x=pure x:=by intro _;rfl):PS X (.Assign [.Name y py] (.ListComp elt [#[tg,iter,ifs,0]] scope pos) spos) (Js (Ik wi g tc te fr) (Ew i)):=by
 intro p0 s Y H Q I h;rw[exec_Assign_Name_used _ _ _ _ hsw];refine wB (wpAny_standAt (wB ?_));show wpAny _ X.A (do let _ <-comprehension (.ListComp elt [#[tg,iter,ifs,0]] scope pos) scope X.env _ (newList []) false (eval iter X.env) (some (assign (.Name y py) X.env))) _ _ s;refine wB (wpAny_mono (wpAny_comprehension_free (use:=some (assign (.Name y py) X.env)) (Q:=λ_ s'=>SP X p0 Q .next s') rfl hs (Cr λy hy e=>I.ok.has y.1 (ok.free y hy e)) ok.kind ok.own ?_) (λ_ s' hq=>wpAny_pure (wpAny_pure hq)) λ_ _ e=>e);refine AS (hi p0 s Y H _ I h) λv s1 h1=>AS h1 λitv s2 h2=>?_
 rintro⟨it,fp,tn,J,H2,e,I2,T,st2,f2,hW⟩:h2;subst e;refine AS (Qx (pos:=pos) (iter:=iter) (E:=X.xe) hc ok hb I2 T st2 f2 hW) λacc s3 h3=>AS h3 λcenv s4 h4=>?_
 refine codeAny_mono h4 λr s5 h5=>?_
 rintro⟨rfl,D,H',xs,rfl,hD,I5,⟨m,hn⟩,fC,q⟩:h5;show wpAny _ X.A (assign (.Name y py) X.env (.ref D)) _ _ _;refine wpAny_assign_Name (Hq (v:=.ref D) I5 hN hy (.inl hl) rfl (λs6 I6 hsb=>?_) (.inr hl));rintro⟨a,sb,ha⟩:hsb
 have hCa:cenv.locals≠a:=by
  rcases ha with e|e
  .rw[e];exact fC.2.1
  .exact λz=>fC.2.2.2.2.1 _ _ e z.symm
 refine#[m,hn.sameBut sb hCa,λh' hs'=>?_];exact#[_,_,I6.turned (t':=s6.toks) (it:=cenv.locals) (λb o hb e=>(hs'.2 b hb).trans e) fC.1 fC.2.1 fC.2.2.2.1 fC.2.2.2.2.1 fC.2.2.2.2.2,q D hD]
end
end Nv
namespace Nv
open PySem L2 PyProof.Rows
variable{W:Wd}{B:Addr->Prop}{H H1:Hp}{U β:Env}{Y Yβ:L2.St}
variable{α:Type}
theorem bind_assoc{β γ:Type}(r:Res α)(f:α->Res β)(g:β->Res γ):(r.bind f).bind g=r.bind λa=>(f a).bind g:=by cases r<;>rfl
theorem Kp.block(R:Kp W B H U Y)(fr:List (Option Nat)):Kp W B H (AE fr U) (Dz fr Y):=by
 refine#[by unfold Dz AE;rw[lM,lM],R.tb,R.FN,λj c q=>?_];unfold A8 AE at q;rw[List.getElem?_map]at q;unfold Dz;rw[List.getElem?_map];cases e:fr[j]? with
 |none=>rw[e]at q;cases q
 |some o=>
   rw[e]at q;cases o with
   |none=>cases q
   |some i=>
     rintro⟨c0,e0,rfl⟩:AU (show(A8 U i).map C.bor=some c from q);rintro⟨v,q1,q2⟩:R.get i c0 e0;refine#[v,?_,q2.borrow λ_ z=>z];show some (((Y[i]?)).join)=_;rw[q1];rfl
theorem Kp.Oo{i:Nat}(R:Kp W B H β Yβ)(hi:i < Yβ.length)(hp:A5 W H p v):Kp W B H (β.set i (some (.p p))) (Yβ.set i (some v)):=by
 refine#[by rw[length_set,length_set];exact R.len,R.tb,R.FN,λj c q=>?_];rw[Cq]at q;split at q
 .rename_i hij;subst hij;split at q
  .cases q;exact#[v,List.getElem?_set_self hi,hp]
  .cases q
 .rename_i hij;rintro⟨u,q1,q2⟩:R.get j c q;exact#[u,by rw[List.getElem?_set_ne hij];exact q1,q2]
variable{Y':L2.St}
theorem AL.both{i:Nat}{is:List Nat}{x:Option V}(u:AL (i::is) Yβ Y'):AL is (Yβ.set i x) (Y'.set i x):=⟨by rw[length_set,length_set];exact u.1,λj hj=>by
 by_cases hij:i=j
 .subst hij;rw[List.getElem?_set,List.getElem?_set,u.1,iP rfl,iP rfl]
 .rw[List.getElem?_set_ne hij,List.getElem?_set_ne hij]
  exact u.2 j λz=>(mem_cons.mp z).elim (λz=>hij z.symm) hj⟩
theorem AL.eq(u:AL [] Yβ Y'):Y'=Yβ:=ext_getElem? λj=>u.2 j (by simp)
theorem Mn{Q:L2.St->Hp->Prop}:∀{is:List Nat} {ps:List P} {vs:List V} {β:Env} {Yβ Y':L2.St},Cw W H ps vs->is.length=ps.length->Kp W B H β Yβ->AL is Yβ Y'->(∀i∈is,i < Yβ.length)->
 (∀Y'',Kp W B H ((is.zip ps).foldl (λr q=>r.set q.1 (some (.p q.2))) β) Y''->AL is Y' Y''->Q Y'' H)->XF is vs Y' H Q
 |[],_,_,β,Yβ,Y',.nil,hl,R,u,hi,q=>#[rfl,q Y' (by rw[u.eq];exact R) (AL.refl _ _)]
 |[],_,_,_,_,_,.cons _ _,hl,_,_,_,_=>by cases hl
 |i::is,_,_,_,_,_,.nil,hl,_,_,_,_=>by cases hl
 |i ::is,_,_,β,Yβ,Y',.cons h1 h2,hl,R,u,hi,q=>⟨_,_,rfl,Mn h2 (Nat.succ.inj hl) (R.Oo (hi i mS) h1) u.both (λj hj=>by rw[length_set];exact hi j (mem_cons_of_mem _ hj)) λY'' r w=>
     q Y'' r ((AL.set mS).trans (w.mono λj hj=>mem_cons_of_mem _ hj))⟩
theorem WZ{Q:L2.St->Hp->Prop}{g:Tg}{β1:Env}(e:Cs g p β=some β1)(hp:A5 W H p v)(R:Kp W B H β Yβ)(u:AL g.slots Yβ Y')(hi:∀i∈g.slots,i < Yβ.length)(q:∀Y'',Kp W B H β1 Y''->AL g.slots Yβ Y''->Q Y'' H):gT W g v Y' H Q:=by
 cases g with
 |nm i=>
   cases e;refine q _ ?_ (u.trans (AL.set mS));rw[(AL.both (is:=[]) u).eq];exact R.Oo (hi i mS) hp
 |tup is=>
   rintro⟨ps,e1,e⟩:Ab e;rintro⟨hl,rfl⟩:A3 e;cases P.Bs e1;rintro⟨a,vs,rfl,s1,r1⟩:A9.mp hp;exact#[a,vs,rfl,s1,by rw[<-Paired.length r1,<-hl],Mn r1 hl R u hi λY'' r w=>q Y'' r (u.trans w)]
theorem V8{k:Sq}{g:Tg}{fr:List (Option Nat)}{F:Env->Res C}{cond:Env->Res Bool}{elt:Env->Res C}{Q:VK}{wi:TI}(hw:Src W k F wi)(hi:∀i∈g.slots,i < fr.length)
 (h:tG W (rV W) (λU=>(F U).bind λc=>(Res.of (k c)).bind λxs=>if xs.length<=big then(C7 g cond elt (AE fr U) xs).bind λys=>.ok (.lst true ys)else .stuck) Y H Q):
 Ik wi (gT W g) (tG W rB cond) (Xv (tG W (rV W) elt)) fr Y H Q:=by
 rintro⟨U,B,R,hA⟩:h;cases eF:F U with
 |stuck=>simp only[eF]at hA;exact hA.elim
 |ok c=>
 simp only[eF,Res.bind]at hA;rintro⟨xs,ek,h0⟩:D2.BP (o:=k c) hA;clear hA;split at h0
 case isFalse=>exact h0.elim
 rename_i hbig;refine hw R eF ek λH1 gc J e1 t1 st hJ=>?_
 have h1:=h0.later Au e1;have R1:=(R.ext e1 t1).block fr;have hl:(Dz fr Y).length=fr.length:=lM ..
 refine⟨λi acc m Y' H'=>m=xs.length - i/\i<=xs.length/\AL g.slots (Dz fr Y) Y'/\Ext H1 H'/\Bx W H'/\∃ys,Cw W H' ys acc/\acc.length<=i/\D2 W (rV W) B H1 ((C7 g cond elt (AE fr U) (xs.drop i)).bind λzs=>.ok (.lst true (ys++zs))) Q,
  #[xs.length,rfl,Nat.zero_le _,AL.refl _ _,Ext.refl _,t1,[],.nil,Nat.le_refl _,h1],?_⟩
 rintro i acc m Y' H' ⟨rfl,hix,hU,eH,tH,ys,ry,hla,hA'⟩
 have hgH:gc H':=st.1 H' eH
 by_cases hlt:i < xs.length
 .rw [drop_eq_getElem_cons hlt]at hA';have hbl:=Bw;refine .inr #[hJ.go i H' hgH hlt,by lia,λx H2 hy=>?_];rintro⟨s2,p,ep,rp⟩:hJ.LN i H' x H2 hgH hlt hy;have ep:xs[i]=p:=by rw[List.getElem?_eq_getElem hlt]at ep;exact Option.some.inj ep
  rw[ep]at hA';replace hA':D2 W (rV W) B H1 (((Res.of (Cs g p (AE fr U))).bind λβ1=>(cond β1).bind λb=>if b then(elt β1).bind λc=>(Res.of c.CK).bind λy=>(C7 g cond elt (AE fr U) (xs.drop (i+1))).bind λys=>.ok (y::ys)else C7 g cond elt (AE fr U) (xs.drop (i+1))).bind λzs=>.ok (.lst true (ys++zs))) Q:=hA';rw[bind_assoc]at hA';rintro⟨β1,eβ,hA'⟩:hA'.BP;rw[bind_assoc]at hA';have e2:=eH.trans (.of s2);have t2:=tH.same s2;refine WZ eβ rp (R1.ext e2 t2) hU (λj hj=>by rw[hl];exact hi j hj) λY3 R3 u3=>#[β1,B,R3,hA'.Dm e2 λb b' H3 e3 t3 rb h3=>?_]
  cases rb;have e13:=e2.trans e3;cases b with
  |true=>
    rw[iP rfl]at h3 ⊢;rw[bind_assoc]at h3;refine#[β1,B,R3.ext e3 t3,h3.Dm e13 λd u H4 e4 t4 r4 h4=>?_];rw[bind_assoc]at h4;rintro⟨y,ey,h5⟩:h4.BP;clear h4;rw[bind_assoc]at h5
    have fin:∀H5,Ext H3 H5->Bx W H5->A5 W H5 y u->∃m',m' < xs.length - i/\m'=xs.length - (i + 1)/\i + 1<=xs.length/\AL g.slots (Dz fr Y) Y3/\Ext H1 H5/\Bx W H5/\∃ys,Cw W H5 ys (acc++[u])/\(acc++[u]).length<=i + 1/\D2 W (rV W) B H1 ((C7 g cond elt (AE fr U) (xs.drop (i + 1))).bind λzs=>.ok (.lst true (ys++zs))) Q:=λH5 e5 t5 r5=>by
     refine#[xs.length-(i+1),by lia,rfl,hlt,u3,e13.trans e5,t5,ys++[y],Pd.append (ry.mono ((((Ext.of s2).trans e3).trans e5)).keep) (.cons r5 .nil),by rw[lA,lS];lia,?_];simp only[append_assoc,List.singleton_append];exact h5
    rcases UE ey r4 with r|⟨a,zs,rfl,ea,hn,hr⟩
    .exact .inl (fin H4 e4 t4 r)
    .exact .inr #[a,zs,rfl,ea,λo=>fin _ (IV (u:=.lst zs) e4 hn) (Ih t4 ea (λ_ z=>nomatch z) (λ_ _ z=>nomatch z) rfl) (hr o)]
  |false=>
    rw[iN Bool.false_ne_true]at h3 ⊢;exact#[xs.length-(i+1),by lia,rfl,hlt,u3,e13,t3,ys,ry.mono (((Ext.of s2).trans e3)).keep,by lia,h3]
 .have e:i=xs.length:=by lia
  subst e;rw[List.drop_length]at hA';refine .inl #[hJ.stop H' hgH,λp hp=>?_];replace hA':D2 W (rV W) B H1 (.ok (.lst true (ys++[]))) Q:=hA';rw[append_nil]at hA';exact hA' _ _ (eH.trans (.of (Ar hp))) (tH.same (Ar hp)) #[p,acc,rfl,#[A6,eH.none hp],ry.mono (AH.of (Ar hp))]
def QM(W:Wd)(Hin:Hp)(A0:Addr->Prop)(H':Hp):Prop:=Bx W H'/\(∀b x,Hin b=some x->¬A0 b->CB x=false->H' b=some x)/\(∀b x,Hin b=some x->∃y,H' b=some y)/\AH Hin H'
def du(W:Wd)(H:Hp)(A0:Addr->Prop)(r:Res C)(Q:C->V->Hp->Prop):Prop:=match r with
 |.stuck=>False
 |.ok c=>∀v H',DB W H A0 c v H'->Q c v H'
def aE(W:Wd)(cf:List C->Res C)(vs:List V)(H:Hp)(Q:C->V->Hp->Prop):Prop:=∃(cs:List C) (O:Addr->Nat) (A0:Addr->Prop),BB W H (λj a=>A0 a/\O a=j) (λa=>¬A0 a/\∃x,H a=some x) 0 cs vs/\Bx W H/\du W H A0 (cf cs) Q
def QP(W:Wd)(cf:List C->Res C):Sp:=λvs H Q _=>aE W cf vs H λ_ v H'=>Q v H'
def Vl(W:Wd)(cf:List C->Res C):Sp:=λvs H Q _=>aE W cf vs H λ_ v H'=>vs.head? =some v->Q .AG H'
def ZY(W:Wd)(mu:Bool)(cf:List C->Res C):Sp:=if mu=true then Vl W cf else QP W cf
def NE:XK:=λ_ _ _=>False
def MI:Xs:=λ_ _ _ _ _ _=>False
theorem BB.length{own:Nat->Addr->Prop}{bor:Addr->Prop}:∀{j:Nat} {cs:List C} {vs:List V},BB W H own bor j cs vs->vs.length=cs.length
 |_,[],vs,h=>by rw[show vs=[]from h];rfl
 |_,_::_,_,⟨v,r,e,_,h⟩=>by rw[e,lC,lC,BB.length h]
theorem BB.get{own:Nat->Addr->Prop}{bor:Addr->Prop}:∀{i j:Nat} {cs:List C} {vs:List V} {c:C},BB W H own bor j cs vs->cs[i]? =some c->∃v,vs[i]? =some v/\AF W H (own (j + i)) bor c v
 |0,j,_::_,_,c,⟨v,r,e,h,_⟩,q=>by cases q;rw[e];exact#[v,rfl,h]
 | i + 1,j,_::_,_,c,⟨v,r,e,_,h⟩,q=>by
   rintro⟨u,h1,h2⟩:BB.get (i:=i) h q;rw[e];exact#[u,h1,by rw[show j+(i+1)=j+1+i by lia];exact h2]
 |i,j,[],_,c,_,q=>by cases q
theorem BC{x:HO}(q:H a=some x):¬H a=none:=by rw[q];exact λz=>nomatch z
variable{bor':Addr->Prop}{H':Hp}
theorem BB.Zr{own own':Nat->Addr->Prop}{bor:Addr->Prop}(e:Ext H H')(ho:∀j a x,own j a->H a=some x->own' j a)(hb:∀a,bor a->bor' a):∀{j:Nat} {cs:List C} {vs:List V},BB W H own bor j cs vs->BB W H' own' bor' j cs vs
 |_,[],_,h=>h
 |j,_::_,_,⟨v,r,q,h1,h2⟩=>#[v,r,q,h1.mono e.keep (λa x p q n=>#[e.but a x q n,ho j a x p q]) λa x p q n=>#[e.but a x q n,hb a p],BB.Zr e ho hb h2]
variable{A0:Addr->Prop}
theorem QM.ext{H1:Hp}(e1:Ext H H1)(hA:∀b x,H b=some x->¬A0 b)(f:QM W H1 A0 H'):Ext H H':=#[λb x q n=>f.2.1 b x (e1.but b x q n) (hA b x q) n,λb x q=>let⟨y,q⟩:=e1.there b x q;f.2.2.1 b y q]
variable{Fs:Env->Res (List C)}
theorem O3{cf:List C->Res C}{Q:VK}(h:tG W (rV W) (λU=>(Fs U).bind cf) Y H Q):tG W (NK W) Fs Y H λvs H1=>QP W cf vs H1 Q NE:=by
 rintro⟨U,B,R,hA⟩:h;refine#[U,B,R,hA.Dm (Ext.refl H) λcs vs H1 e1 t1 ⟨O,r⟩ h1=>#[cs,O,λa=>H a=none,r.imp (Ext.refl _) (λ_ _ z=>z) (λa z=>?_),t1,?_]]
 .obtain⟨x,q⟩:=R.FN a z;exact#[BC q,e1.there a x q]
 .cases er:cf cs with
  |stuck=>rw[er]at h1;exact h1
  |ok c=>
    rw[er]at h1;exact λv H' r=>h1 v H' (QM.ext e1 (λb x q=>BC q) r.2) r.2.1 (r.1.ext (Ext.refl _) (λa z=>z.elim e1.none id) λ_ z=>z.elim)
theorem V7{cf:List C->Res C}{Q:VK}(h:tG W (rV W) (λU=>(Fs U).bind λcs=>(cf (.obj true []::cs)).bind λc=>if c.Jb then .ok c else .stuck) Y H Q):U9 W.lc (Vl W cf) [] NE (tG W (NK W) Fs) Y H Q:=by
 rintro⟨U,B,R,hA⟩:h;refine#[U,B,R,hA.Dm (Ext.refl H) λcs vs H1 e1 t1 ⟨O,r⟩ h1 x dx hx hd hne=>?_];have s1:Dc H1 (upd H1 dx (.own x)):=Ar hd;have hx2:upd H1 dx (.own x) x=none:=by rw[A4 hne.symm];exact hx
 have s2:=s1.trans (Ar (o:=.ins W.lc dx []) hx2);have e2:=e1.trans (Ext.of s2);rw[append_nil];refine#[.obj true []::cs,λa=>if a=x then 0 else O a+1,λa=>H a=none,#[.ref x,vs,rfl,#[x,dx,[],rfl,by rw[List.zip_nil_right];exact A6,#[e1.none hx,iP rfl],.nil,.nil],BB.shift (r.Zr (Ext.of s2) (λj a y z q=>#[z.1,(iN (AI q hx)).trans (by rw[z.2])]) λa z=>let⟨y,q⟩:=R.FN a z;#[BC q,e2.there a y q])],t1.same s2,?_];cases er:cf (.obj true []::cs)with
 |stuck=>rw[er]at h1;exact h1
 |ok c=>
   rw[er]at h1;replace h1:D2 W (rV W) B H (if c.Jb=true then .ok c else .stuck) Q:=h1;split at h1
   case isFalse=>exact h1.elim
   intro v H' r hv;cases hv;exact#[rfl,h1 _ H' (QM.ext e2 (λb x q=>BC q) r.2) r.2.1 (r.1.ext (Ext.refl _) (λa z=>z.elim e2.none id) λ_ z=>z.elim)]
variable{cs:List C}
theorem Q2{n i:Nat}{c:C}(h:A8 (cs.map some++List.replicate n none) i=some c):cs[i]? =some c:=by
 unfold A8 at h;rw[List.getElem?_append]at h;split at h
 .rename_i hi;rw[lM]at hi;rw[List.getElem?_map]at h;cases e:cs[i]? with
  |none=>rw[e]at h;cases h
  |some d=>rw[e]at h;cases h;rfl
 .rw[List.getElem?_replicate]at h;split at h<;>cases h
variable{vs:List V}{O:Addr->Nat}
theorem Aq.start{n:Nat}(h:BB W H (λj a=>A0 a/\O a=j) (λa=>¬A0 a/\∃x,H a=some x) 0 cs vs)(t:Bx W H):
 Aq W H A0 (λ_ a=>¬A0 a/\∃x,H a=some x) H (cs.map some++List.replicate n none) (vs.map some++List.replicate n none):=by
 refine#[by simp[h.length],t,#[O,λi c q=>?_],λ_ a z=>#[z.2,z.1],λb x q _ _=>q,λb x q=>#[x,q],AH.refl _];rintro⟨v,h1,h2⟩:h.get (Q2 q);refine#[v,?_,h2.ext (Ext.refl _) (λa z=>#[by rw[z.2];exact Nat.zero_add i,.inr z.1]) λ_ z=>z];have hl:i < vs.length:=(List.getElem?_eq_some_iff.mp h1).1;rw[List.getElem?_append_left (by rw[lM];exact hl),List.getElem?_map,h1];rfl
theorem Mz{cf:CF}{fi:LI}{N:List Str}{E:XK}{Q:VK}(hnl:fi.nl=N.length)(hv:vs.length=fi.np)
 (hsp:ZY W fi.mu (Cu cf As fi) vs H Q E):tS W (CD fi.body) (execs cf As fi.body) {nx:=λ_ H'=>Q .AG H',rt:=Q} (L2.start N vs) H:=by
 have hst:L2.start N vs=vs.map some++List.replicate (fi.nl-fi.np) none:=by unfold L2.start;rw[hnl,hv]
 rw[hst];cases hm:fi.mu with
 |false=>
   rw[hm]at hsp;rintro⟨cs,O,A0,hR,ht,hQ⟩:hsp;have hlen:=hR.length;refine#[H,A0,_,_,Aq.start hR ht,?_];unfold Cu at hQ;rw[iP (by lia),hm]at hQ;cases eb:execs cf As fi.body (cs.map some++List.replicate (fi.nl-fi.np) none)with
   |stuck=>rw[eb]at hQ;exact hQ
   |nx U'=>rw[eb]at hQ;exact λY' H' s u=>hQ .AG H' #[(Dn (W:=W) (H:=H')).mpr rfl,s.tb,s.EZ,s.FN,s.kp]
   |ret c=>rw[eb]at hQ;exact λv H' r=>hQ v H' r
 |true=>
   rw[hm]at hsp;rintro⟨cs,O,A0,hR,ht,hQ⟩:hsp;have hlen:=hR.length;refine#[H,A0,_,_,Aq.start hR ht,?_];unfold Cu at hQ;rw[iP (by lia),hm,iP rfl]at hQ;split at hQ
   .exact hQ.elim
   rename_i h0;cases eb:execs cf As fi.body (cs.map some++List.replicate (fi.nl-fi.np) none)with
   |nx U'=>
     rw[eb]at hQ;intro Y' H' s u;rintro⟨O2,hO⟩:s.env;cases hg:A8 U' 0 with
     |none=>simp only[hg]at hQ;exact hQ.elim
     |some c=>
       simp only[hg,C.got]at hQ;split at hQ
       case isFalse=>exact hQ.elim
       rename_i ho;rintro⟨v,q1,q2⟩:hO 0 c hg;refine hQ v H' #[D5 ho q2 λa x z _=>z.2,s.tb,s.EZ,s.FN,s.kp] ?_;rw[u.2 0 (by simpa using h0)]at q1;cases vs with
       |nil=>
         rw[map_nil,List.nil_append,List.getElem?_replicate]at q1;split at q1<;>cases q1
       |cons w vs=>cases q1;rfl
   |_=>rw[eb]at hQ;exact hQ.elim
def QL(P:Program)(w:World)(K:Frag)(mg:Str->Option Value)(base:Heap)(sp:Sp)(k:Nat)(a:Addr):Prop:=(∃o fd,base.get? a=some o/\o.data= .func fd)/\
 ∀(A:Around) (outer:List PySem.Env) (s:Shared) (H:Hp) (us:List Value) (vs:List V) (Q:VK) (E:XK),BU k A->FR P w K mg base A outer s H->Vals vs us->sp vs H Q E->codeAny (model P w) A (.call (.ref a) #[us,[]]) (L2.CR MI outer P w H s Q E) s
abbrev cx(P:Program)(w:World)(K:Frag)(mg:Str->Option Value)(base:Heap)(W:Wd)(cf:CF)(k n:Nat)(caps:List Nv.P)(a:Addr):Prop:=QL P w K mg base (QP W (λcs=>cf n (cs++caps.map .p))) k a
abbrev Fv(X:Cx)(W:Wd)(cf:CF)(k n:Nat)(caps:List Nv.P)(a:Addr):Prop:=cx X.prog X.w X.K X.mg X.base W cf k n caps a
abbrev Fm(X:Cx)(W:Wd)(cf:CF)(k n:Nat)(a:Addr):Prop:=QL X.prog X.w X.K X.mg X.base (Vl W (cf n)) k a
section
variable{X:Cx}{cf:CF}{k n:Nat}{caps:List Nv.P}{a:Addr}{p0:Oa}{s:Shared}{Q:VK}{sp:Sp}
theorem Ou(F:QL X.prog X.w X.K X.mg X.base sp k a)(hr:BU k X.A){us:List Value}{vs:List V}(I:∅)(r:Vals vs us)(h:sp vs H Q NE):(X|||(call (.ref a) us)) (EP X p0 Y Q) X.xe s:=by
 refine wpAny_call (codeAny_mono (F.2 X.A X.stack s H us vs Q _ hr I.ZC r h) λr s' hq=>?_);cases r with
 |error e=>exact False.elim hq
 |ok fl=>
   cases fl with
   |ret u=>exact I.after hq
   |next=>exact False.elim hq
   |brk=>exact False.elim hq
   |cont=>exact False.elim hq
variable{ts:List T}{pos:Pos}
theorem Gh(F:QL X.prog X.w X.K X.mg X.base sp k a)(hr:BU k X.A){es:List Expr}{fst:List Value}{fvs:List V}(hf:Vals fvs fst)(hs:E6 X W cf es ts)(I:∅)(h:tG W (NK W) (BK cf ts) Y H λvs H1=>sp (fvs++vs) H1 Q NE):
 (X|||(callWith pos (.ref a) fst (backTo pos (starEach es X.env)) [])) (EP X p0 Y Q) X.xe s:=by
 rintro⟨o,fd,q1,q2⟩:F.1;refine Calls.callWith_function (o:=o) (fd:=fd) ?_;have h0:=OT hs pos p0 s Y H _ I h;cases hs with
 |nil=>exact PySem.evalArgs_none #[#[I.bk _ _ q1,q2],Ou F hr I (hf.append .nil) (LU h)]
 |cons he hs=>
   rw[A2 he.st]at h0 ⊢;exact Calls.evalArgs_plain (AS h0 λus s1 ⟨vs,H1,I1,r,q⟩=>#[#[I1.bk _ _ q1,q2],Ou F hr I1 (hf.append r) q])
theorem Oi(hK:W.K=X.K)(F:Fv X W cf k n [] a)(hr:BU k X.A){es:List Expr}(hg:Gl X x)(hm:X.mg x=some (.ref a))(hdb:ng x)(hs:E6 X W cf es ts):AR X W cf (.Call (.Name x p) es [] pos) (.call n ts):=by
 refine AR.of hK (λp0 s Y H Q I z=>?_) rfl;refine wpAny_Call_Name_kw (G0 I hg hm (Gh F hr .nil hs I (O3 ?_)) hdb);simp only[map_nil,append_nil];exact z
theorem Rz(hK:W.K=X.K){i:Nat}(hF:∀n caps a,W.fa n caps a->Fv X W cf k n caps a)(hr:BU k X.A){es:List Expr}(hv:PE X (.Name x p) (EO i))(hs:E6 X W cf es ts):AR X W cf (.Call (.Name x p) es [] pos) (.app i ts):=by
 refine AR.of hK (λp0 s Y H Q I z=>?_) rfl;rintro⟨U,B,R,hA⟩:z;rintro⟨q,eq,hA⟩:hA.BP;rintro⟨c,ec,eq⟩:Ab eq
 have hc:c= .p (.fn q.1 q.2):=by
  cases c with
  |p y=>cases y<;>cases eq;rfl
  |_=>cases eq
 subst hc;rintro⟨v,e1,e2⟩:R.get i _ ec;rintro⟨a,ea,rfl⟩:FW.mp (GW e2);refine wpAny_Call_Name_kw (AS (hv p0 s Y H (λv H1=>v= .ref a/\H1=H) I #[_,e1,rfl,rfl]) λv s1 ⟨y,H1,I1,r1,e3,e4⟩=>?_);subst e3;subst e4;cases r1;exact Gh (hF _ _ _ ea) hr .nil hs I1 (O3 #[U,B,R,hA])
theorem UG{P:Program}{w:World}{K:Frag}{mg:Str->Option Value}{base:Heap}{fd:FuncData}{ps:List Str}(hb0:∃o fd,base.get? f=some o/\o.data= .func fd)(F:GV P w K mg base MI k f fd ps sp)(hb:Binds K fd ps []):QL P w K mg base sp k f:=
 ⟨hb0,λA outer s H us vs Q E hr e0 r h=>by
  have hl:us.length=ps.length:=by rw[<-r.length];exact F.len _ _ _ _ h
  have By:K.In s.heap:=e0.mod.By.keeps λb o e=>(e0.bs b o e).1
  exact F.run A outer s H #[us,[]] us vs Q E hr e0 (by simpa using hb s us By (by simpa using hl)) r h⟩
end
variable{X:Cx}{p0:Oa}{s:Shared}
def UL:HO:=.ext λ_=>True
def grown(H:Hp)(P c:Addr)(oc:Obj)(ps:Array Value):Hp:=upd (upd H c (.CK oc UL)) P (.Jn ps)
theorem Q0{P c:Addr}{oc:Obj}{ps more:Array Value}{h':Heap}{tk:Nat}(I:∅)(hP:H P=some (.Jn ps))(hc:s.heap.objs.size<=c)
 (hx:∀b o,b≠P->s.heap.get? b=some o->h'.get? b=some o)(hoc:h'.get? c=some oc)(hPn:h'.get? P=some {cls:=.none,data:=.fields (ps++more)}):
 Inv X p0 Y (grown H P c oc (ps++more)) {s with heap:=h',toks:=tk}/\AH H (grown H P c oc (ps++more))/\Ext H (grown H P c oc (ps++more)):=by
 have hcn:H c=none:=I.Aj.fresh hc;have neP:∀b x,H b=some x->CB x=false->b≠P:=λb x e n z=>by rw[z,hP]at e;cases e;cases n
 have nec:∀b x,H b=some x->b≠c:=λb x e z=>by rw[z,hcn]at e;cases e
 have hPc:P≠c:=nec P _ hP
 have same:∀b x,H b=some x->CB x=false->grown H P c oc (ps++more) b=some x:=λb x e n=>by
  unfold grown;rw[A4 (neP b x e n),A4 (nec b x e)];exact e
 have lt:∀b o,s.heap.get? b=some o->b≠c:=λb o e z=>absurd (Nat.lt_of_lt_of_le (hZ e) (z▸hc)) (Nat.lt_irrefl _)
 have neU:∀b,H b=none->b≠P:=λb n z=>by rw[z,hP]at n;cases n
 have there:∀b x,H b=some x->∃x',grown H P c oc (ps++more) b=some x':=λb x e=>by
  by_cases hb:b=P
  .exact#[_,by rw[hb];exact A6]
  .exact#[x,by unfold grown;rw[A4 hb,A4 (nec b x e)];exact e]
 have kp:AH H (grown H P c oc (ps++more)):=λa=>#[λxs e=>same a _ e rfl,λo u e=>same a _ e rfl]
 refine#[I.un #[λb o e n hb _=>hx b o (neU b n) e,λb o e n hb _=>#[o.slots,hx b o (neU b n) e],λb o e n _=>?_,λb o e _=>?_,λb xs e=>same b _ e rfl,λb o u e=>same b _ e rfl,λb qs e=>?_] (λa o e=>?_),kp,#[same,there]]
 .unfold grown;rw[A4 (neU b n),A4 (lt b o e)];exact n
 .by_cases hb:b=P
  .exact#[_,by rw[hb];exact hPn]
  .exact#[o,hx b o hb e]
 .by_cases hb:b=P
  .rw[hb,hP]at e;cases e;exact#[more,by rw[hb];exact A6]
  .exact#[[].toArray,by unfold grown;rw[A4 hb,A4 (nec b _ e),e];simp]
 .by_cases ha:a=P
  .subst ha;have e:grown H a c oc (ps++more) a=some o:=e;unfold grown at e;rw[A6]at e;cases e;exact hPn
  .by_cases ha2:a=c
   .subst ha2;unfold grown at e;rw[A4 ha,A6]at e;cases e;exact#[hoc,trivial,#[_,hoc],λ_ _ _ _=>trivial]
   .have e0:H a=some o:=by
     unfold grown at e;rw[A4 ha,A4 ha2]at e;exact e
    refine(I.Aj a o e0).GZ (λb u hb q=>hx b u ?_ q) (λb q=>same b _ q rfl) λb xs q=>same b _ q rfl
    rcases hb with rfl|hb
    .exact ha
    .exact neP b _ hb rfl
theorem Hy{β:Type}:∀{l:List (α×β)} {p q:α×β},(l.map (·.1)).Nodup->p∈l->q∈l->p.1=q.1->p=q
 |[],_,_,_,h,_,_=>by cases h
 | x ::l,p,q,hn,hp,hq,e=>by
   rw[map_cons,nodup_cons]at hn;rcases mem_cons.mp hp with hp1|hp1
   .rcases mem_cons.mp hq with hq1|hq1
    .rw[hp1,hq1]
    .exact absurd (by rw[<-hp1,e];exact mem_map_of_mem hq1) hn.1
   .rcases mem_cons.mp hq with hq1|hq1
    .exact absurd (by rw[<-hq1,<-e];exact mem_map_of_mem hp1) hn.1
    .exact Hy hn.2 hp1 hq1 e
variable{sc:Scope}{lp:Pos}
theorem Pu{as:Arguments}{P:Addr}{clos:List (Str×Addr)}{Q:Va}(I:∅)(tb:Bx W H)(hnd:(W.tabs.map (·.1)).Nodup)(hq:(P,lp,X.env.qual++"<lambda>")∈W.tabs)
 (hdef:defaultsOf as X.env=([],[]))(hcl:closureFor sc X.env=pure clos)(hcode:X.env.code= .ref c)(C:CodeHd X.base c P)(hB:X.base.BuiltinsAt X.mg P)(hgP:mainGlobals≠P)
 (h:∀(c0 cc:Addr) (ctv:Value) (s':Shared) (H':Hp),Inv X p0 Y H' s'->AH H H'->Ext H H'->Bx W H'->LJ H' (cc,X.env.qual++"<lambda>")->
   s'.heap.get? c0=some {cls:=.type "function",data:=.func (kla_fn "<lambda>" (X.env.qual++"<lambda>") as b sc clos ((X.mg "__name__").getD .none) (.ref cc) ctv)}->s.heap.objs.size<=c0->H' c0=none->
   (∀a o,s.heap.get? a=some o->H a=none->s'.heap.get? a=some o)->Q (.ref c0) s'):(X|||(eval (.Lambda as b sc lp) X.env)) Q X.xe s:=by
 rintro⟨ps,hP,ht,hcodes⟩:tb.1 _ hq;have hPs:s.heap.get? P=some (tabObj ps):=I.Aj P _ hP;have hg:s.heap.Ns mainGlobals X.mg:=I.mod.glob.keeps I.bk;have hb:s.heap.BuiltinsAt X.mg P:=let⟨bm,o,q1,q2,q3,q4,q5,q6⟩:=hB;#[bm,o,q1,q2,q3,q4,I.bk _ _ q5,q6];refine PySem.W.kla_eval hdef ?_;cases hf:codeAmong lp ps.toList with
 |some cv=>
   rintro⟨cc,rfl,hcc⟩:hcodes cv hf;refine PySem.W.kla_makeFunctionHit hcl I.ok.glob hg hcode (C.keeps I.bk) hPs ht hf hb λctv h' tk hk hsz=>?_
   have hk2:∀a o,s.heap.get? a=some o->(h'.push {cls:=.type "function",data:=.func (kla_fn "<lambda>" (X.env.qual++"<lambda>") as b sc clos ((X.mg "__name__").getD .none) (.ref cc) ctv)}).get? a=some o:=λa o e=>gP (hk a o e)
   exact h _ cc ctv _ H (I.kept hk2) (λa=>#[λ_ e=>e,λ_ _ e=>e]) (Ext.refl H) tb hcc (Heap.get?_push_size _ rfl) hsz (I.Aj.fresh hsz) λa o e _=>hk2 a o e
 |none=>
   refine PySem.W.kla_makeFunction hcl I.ok.glob hg hcode (C.keeps I.bk) hPs ht hf hgP hb λc' ctv h' tk hx hge hlt hrec htb=>?_
   rintro⟨c2,oc,vs,t,e2,hoc,hd,hv⟩:hrec;cases e2;have hk2:∀a o,a≠P->s.heap.get? a=some o->(h'.push (PySem.W.kla_obj "<lambda>" (X.env.qual++"<lambda>") as b sc clos ((X.mg "__name__").getD .none) c' ctv)).get? a=some o:=λa o n e=>gP (hx a o n e)
   rintro⟨g1,g2,g3⟩:Q0 (c:=c') (oc:=oc) (tk:=tk) I hP hge hk2 (gP hoc) (gP htb);have hPc:P≠c':=λz=>by rw[z,I.Aj.fresh hge]at hP;cases hP
   have hszc:s.heap.objs.size<=h'.objs.size:=Nat.le_trans hge (Nat.le_of_lt hlt);have hcdn:LJ (grown H P c' oc (ps++ [rawInt lp.line,rawInt lp.col,Value.ref c'].toArray)) (c',X.env.qual++"<lambda>"):=#[oc,UL,vs,t,by unfold grown;rw[A4 hPc.symm];exact A6,hd,hv];refine h _ c' ctv _ _ g1 g2 g3 #[λq hq2=>?_,λq hq2=>(tb.2 q hq2).keep g2] hcdn (Heap.get?_push_size _ rfl) hszc ?_ λa o e n=>hk2 a o (λz=>by rw[z,hP]at n;cases n) e
   .by_cases hqP:q.1=P
    .have eq:q=(P,lp,X.env.qual++"<lambda>"):=Hy hnd hq2 hq hqP;subst eq;have el:(ps++ [rawInt lp.line,rawInt lp.col,Value.ref c'].toArray).toList=ps.toList++[rawInt lp.line,rawInt lp.col,Value.ref c']:=by simp
     refine#[_,A6,by rw[el];exact TriplesOk_snoc _ _ _ _ ht,λcv e=>?_];rw[el]at e;have e:codeAmong lp (ps.toList++[rawInt lp.line,rawInt lp.col,Value.ref c'])=some cv:=e;rw[codeAmong_snoc _ ht hf]at e;cases e;exact#[c',rfl,hcdn]
    .obtain⟨qs,k1,k2,k3⟩:=tb.1 q hq2;refine#[qs,?_,k2,λcv e=>?_]
     .unfold grown;rw[A4 hqP,A4 λz=>by rw[z,I.Aj.fresh hge]at k1;cases k1];exact k1
     .obtain⟨d,j1,j2⟩:=k3 cv e;exact#[d,j1,j2.keep g2]
   .unfold grown;rw[A4 λz=>?_,A4 (Nat.ne_of_gt hlt)]
    .exact I.Aj.fresh hszc
    .have:=I.Aj.lt hP;rw[<-z]at this;exact absurd (Nat.lt_of_lt_of_le this hszc) (Nat.lt_irrefl _)
def baseOf(B h:Heap)(L:List Addr):Heap:=hideAll h ((List.range h.objs.size).filter λb=>(B.get? b).isNone && !L.contains b)
variable{h:Heap}
theorem GS{B:Heap}(k:∀b o,B.get? b=some o->h.get? b=some o){b:Addr}{o:Obj}(e:B.get? b=some o):(baseOf B h L).get? b=some o:=
 hideAll_get _ (k b o e) λhm=>by
  have:=(mem_filter.mp hm).2;rw[e]at this;simp at this
theorem Fb{B:Heap}{L:List Addr}{b:Addr}{o:Obj}(hb:b∈L)(e:h.get? b=some o):(baseOf B h L).get? b=some o:=
 hideAll_get _ e λhm=>by
  have:=(mem_filter.mp hm).2;simp[hb]at this
theorem HZ{B:Heap}{o:Obj}(e:(baseOf B h L).get? b=some o):h.get? b=some o/\((∃o',B.get? b=some o')\/b∈L):=by
 have e':h.get? b=some o:=of_hideAll _ e;refine#[e',?_]
 by_cases hb:b∈L
 .exact .inr hb
 .cases q:B.get? b with
  |some o'=>exact .inl #[o',rfl]
  |none=>
    have hm:b∈(List.range h.objs.size).filter λb=>(B.get? b).isNone && !L.contains b:=mem_filter.mpr #[mem_range.mpr (hZ e'),by simp[q,hb]]
    have z:(baseOf B h L).get? b=none:=hideAll_none _ hm;rw[z]at e;cases e
theorem Fw{B B':Heap}:∀{l:List PySem.Env},h.FunFrames B l->(∀b∈Lk l,B.get? b=none->B'.get? b=none)->h.FunFrames B' l
 |[],_,_=>trivial
 |env::l,⟨hk,⟨L,o,hf,hn,ho,hd⟩,hr⟩,k=>⟨hk,#[L,o,hf,k L (by unfold Lk;rw[filterMap_cons,hf];exact mS) hn,ho,hd],Fw hr λb hb=>k b (by
     unfold Lk at hb ⊢;rw[filterMap_cons,hf]
     exact mem_cons_of_mem _ hb)⟩
theorem Nt{L:List Addr}(I:∅)(hL:∀b∈L,∃o,s.heap.get? b=some o/\H b=none)(hF:∀b∈L,b∉Lk X.stack):FR X.prog X.w X.K X.mg (baseOf X.base s.heap L) X.A X.stack s H:=by
 have k:∀b o,X.base.get? b=some o->(baseOf X.base s.heap L).get? b=some o:=λb o e=>GS I.bk e
 have m:=I.mod;refine#[I.ok.frames,#[m.By.keeps k,m.glob.keeps k,let⟨mb,h1,h2⟩:=m.blt;#[mb,h1.keeps k,h2],m.nolimit.keeps k],λb o e=>?_,Nat.le_of_eq (hideAll_size _ _),Fw I.stack λb hb n=>?_,I.Io,I.Aj,I.bare]
 .obtain⟨e1,e2⟩:=HZ e;rcases e2 with⟨o',e2⟩|e2
  .exact#[e1,(I.bs b o' e2).2]
  .obtain⟨o',q1,q2⟩:=hL b e2;exact#[e1,q2]
 .cases q:(baseOf X.base s.heap L).get? b with
  |none=>rfl
  |some o=>
    rcases(HZ q).2 with⟨o',e2⟩|e2
    .rw[n]at e2;cases e2
    .exact absurd hb (hF b e2)
noncomputable def K8(P:Program)(w:World)(K:Frag)(mg:Str->Option Value)(base:Heap)(N:List Str)(qual:Str)(scope:Scope)(f:Addr)(cd:Value)(cl:List (Str×Addr))(A:Around)(outer:List PySem.Env)(s:Shared)(H:Hp)(E:XK):Cx where
 prog:=P
 w:=w
 K:=K
 mg:=mg
 base:=base
 A:=A.deeper (envX qual scope s.heap.objs.size f cd cl)
 N:=N
 s₀:=s
 H₀:=H
 env:=envX qual scope s.heap.objs.size f cd cl
 outer:=outer
 stack:=envX qual scope s.heap.objs.size f cd cl::outer
 ex:=[]
 calm:=true
 fn:=λ_=>false
 pn:=[]
 xe:=λe s'=>wpAny (model P w) (A.deeper (envX qual scope s.heap.objs.size f cd cl)) (leaving (envX qual scope s.heap.objs.size f cd cl) e) (λ_ s''=>MI outer H s E e s'') (λe' s''=>MI outer H s E e' s'') s'
structure QI(y:Str)(fr:List Str)(sc:Scope)(cl:List (Str×Addr)):Prop where
 kind:sc.kind= .function
 co:sc.isCoroutine=false
 gen:sc.isGenerator=false
 CI:∀x∈sc.names,x.2≠.cell
 loc:sc.names.lookup y=some .local
 only:∀x,sc.names.lookup x=some .local->x=y
 nd:(y::fr).Nodup
 inj:∀x y c,cl.lookup x=some c->cl.lookup y=some c->x=y
 has:∀x,sc.names.lookup x=some .free->∃c,cl.lookup x=some c
section
variable{P:Program}{w:World}{K:Frag}{mg:Str->Option Value}{base:Heap}
theorem Du{k:NameKind}:∀{l:List (Str×NameKind)},l.lookup x=some k->∃y∈l,y.2=k
 |[],h=>by simp at h
 | (y,j)::l,h=>by
   rw[lookup_cons]at h;cases hb:x == y with
   |true=>rw[hb]at h;cases h;exact#[_,mS,rfl]
   |false=>rw[hb]at h;rintro⟨z,h1,h2⟩:Du h;exact#[z,mem_cons_of_mem _ h1,h2]
variable{qual:Str}{sc:Scope}{s:Shared}{H:Hp}{vs:List V}
theorem SS{fr:List Str}{cd:Value}{cl:List (Str×Addr)}{A:Around}{outer:List PySem.Env}{E:XK}{h':Heap}{tk:Nat}(S:QI y fr sc cl)(hd:A.handled=none)(e0:FR P w K mg base A outer s H)
 (hcell:∀x c,cl.lookup x=some c->∃u,base.IsCell c (some u))(hvs:vs.length=fr.length)(hv:∀(i:Nat) (x:Str) (v:V),fr[i]? =some x->vs[i]? =some v->∃c u,cl.lookup x=some c/\base.IsCell c (some u)/\RelV v u)(r0:RelV v0 u0)
 (hns:h'.Ns s.heap.objs.size λx=>[(y,u0)].lookup x)(hsb:∀b o,s.heap.get? b=some o->h'.get? b=some o):
 Inv (K8 P w K mg base (y::fr) qual sc f cd cl A outer s H E) [] ((v0::vs).map some) H {s with heap:=h',toks:=tk}:=by
 have bk:∀b o,base.get? b=some o->h'.get? b=some o:=λb o e=>hsb b o (e0.bs b o e).1
 have cellk:∀{c:Addr} {u:Value},base.IsCell c (some u)->h'.IsCell c (some u):=λ{c u} ⟨o,ho,hd⟩=>#[o,bk _ _ ho,hd]
 have cellf:∀{c:Addr} {u:Value},base.IsCell c (some u)->H c=none:=λ{c u} ⟨o,ho,_⟩=>(e0.bs _ _ ho).2
 refine#[#[e0.mod,S.kind,rfl,rfl,Nat.le_refl _,S.inj,λx hx=>?_,λx c hx=>(by cases hx),λ_=>hd,?_,.inr #[rfl,rfl],λb hb=>(by cases hb),e0.bs,e0.UN,λb o e hb=>(by cases hb),λb hb=>(by cases hb),e0.FK,e0.XG],rfl,e0.bare,Un.kept hsb,#[_,hns,λi x v e1 e2 e3=>?_],λx c e=>?_,e0.Aj.fresh (Nat.le_refl _),λx c e=>?_,λp hp=>(by cases hp),e0.Aj.kept hsb,by simp[K8,hvs]]
 .rcases hx with hx|hx
  .obtain⟨y,h1,h2⟩:=Du (show sc.names.lookup x=some .cell from hx);exact absurd h2 (S.CI y h1)
  .exact S.has x hx
 .have:=e0.frames
  first|exact congrArg _ (by rfl)|(simp[K8,Around.deeper,this])
 .have e1:(y::fr)[i]? =some x:=e1;cases i with
  |zero=>
    cases e1;cases e2;exact#[u0,r0,.inl #[S.loc,by simp]]
  |succ i=>
    have e1:fr[i]? =some x:=e1;have e2:(vs.map some)[i]? =some (some v):=e2;rw[List.getElem?_map]at e2;rintro⟨v',h1,h2⟩:oM e2;cases h2;rintro⟨c,u,q1,q2,q3⟩:hv i x v e1 h1;refine#[u,q3,.inr #[?_,c,q1,cellk q2]];rcases e3 with z|z|z
    .exact absurd (mem_of_getElem? e1) (by rw[S.only x z];exact(nodup_cons.mp S.nd).1)
    .obtain⟨y,h1,h2⟩:=Du z;exact absurd h2 (S.CI y h1)
    .exact .inr z
 .obtain⟨u,q⟩:=hcell x c e;exact#[some u,cellk q]
 .obtain⟨u,q⟩:=hcell x c e;exact cellf q
theorem SG{k:Nat}{fr:List Str}{as:Arguments}{clos:List (Str×Addr)}{pm cv ctv:Value}{u0:Value}{A:Around}{outer:List PySem.Env}{Q:VK}{E:XK}{t:TE}
 (e0:FR P w K mg base A outer s H)(hr:BU (k+1) A)(S:QI y fr sc clos)(ho:base.get? c0=some {cls:=.type "function",data:=.func (kla_fn "<lambda>" qual as b sc clos pm cv ctv)})(hcd':s.heap.CodeRec cv qual)
 (hbind:bindArgs (kla_fn "<lambda>" qual as b sc clos pm cv ctv) #[[u0],[]]=pure [(y,u0)])(hcell:∀x c,clos.lookup x=some c->∃u,base.IsCell c (some u))(hvs:vs.length=fr.length)(hv:∀(i:Nat) (x:Str) (v:V),fr[i]? =some x->vs[i]? =some v->∃c u,clos.lookup x=some c/\base.IsCell c (some u)/\RelV v u)(r0:RelV v0 u0)
 (hpe:PE (K8 P w K mg base (y::fr) qual sc c0 cv clos A outer s H E) b t)(hq:t ((v0::vs).map some) H Q):codeAny (model P w) A (.call (.ref c0) #[[u0],[]]) (L2.CR MI outer P w H s Q E) s:=by
 have lim:s.heap.NoLimit:=e0.mod.nolimit.keeps λb o e=>(e0.bs b o e).1
 refine PySem.W.kla_callFunE hr.depth (e0.bs _ _ ho).1 rfl S.co S.gen rfl hcd' ?_;rw[hbind];refine wpAny_pure (wpAny_newFunctionEnv S.CI (λx hx=>by rw[mE hx];exact S.loc) (λh₁ hns hsb=>?_) S.kind);have hk:∀b o,s.heap.get? b=some o->h₁.get? b=some o:=λb o e=>hsb.extBut b o (Nat.ne_of_lt (hZ e)) (gP e)
 refine#[lim.keeps hk,?_];show codeAny _ _ (.expr b (envX qual sc s.heap.objs.size c0 cv clos)) _ _;have I:=SS (E:=E) (qual:=qual) (f:=c0) (cd:=cv) (tk:=s.toks+1) S hr.hd e0 hcell hvs hv r0 hns hk;refine PySem.W.kla_codeExpr (wpAny_mono (hpe [] _ _ H Q I hq) (λv s' ⟨y,H',J,r,q⟩=>?_) λe s' z=>z);exact#[y,H',J.os,J.bare,J.base,J.Aj,r,q]
end
structure TL(W W':Wd):Prop where
 K:W.K=W'.K
 w:W.w=W'.w
 lc:W.lc=W'.lc
 fl:W.fl=W'.fl
 tabs:W.tabs=W'.tabs
 NA:∀q∈W.NA,q∈W'.NA
 fa:∀n c a,W.fa n c a->W'.fa n c a
def EH(ct:Ct)(LT:Nat->Nat->T->Prop)(W:Wd)(base:Heap)(l:Nat)(caps:List Nv.P)(a:Addr):Prop:=
 ∃ (qual y:Str) (fr:List Str) (as:Arguments) (b:Expr) (sc:Scope) (clos:List (Str×Addr)) (pm ctv:Value) (cc:Addr) (t:T) (is:List Int),
   base.get? a=some {cls:=.type "function",data:=.func (kla_fn "<lambda>" qual as b sc clos pm (.ref cc) ctv)}/\(cc,qual)∈W.NA/\QI y fr sc clos/\Nf as sc=y::fr/\
   (∀u0,bindArgs (kla_fn "<lambda>" qual as b sc clos pm (.ref cc) ctv) #[[u0],[]]=pure [(y,u0)])/\(∀x c,clos.lookup x=some c->∃u,base.IsCell c (some u))/\caps=is.map .int/\is.length=fr.length/\
   (∀(i:Nat) (x:Str) (n:Int),fr[i]? =some x->is[i]? =some n->∃c u,clos.lookup x=some c/\base.IsCell c (some u)/\RelV (.int n) u)/\kE (ct.lam as sc) b=some t/\LT l (y::fr).length t
structure Xq(X:Cx)(W:Wd)(cf:CF)(k:Nat)(ct:Ct)(LT:Nat->Nat->T->Prop)(lp:Pos):Prop where
 code:∃c P,X.env.code= .ref c/\codeHdIn X.K c P=true/\X.base.BuiltinsAt X.mg P/\mainGlobals≠P/\(P,lp,X.env.qual++"<lambda>")∈W.tabs
 nd:(W.tabs.map (·.1)).Nodup
 run:∀(W':Wd) (base':Heap),TL W W'->(∀b o,X.base.get? b=some o->base'.get? b=some o)->(∀n c a,W'.fa n c a->W.fa n c a\/EH ct LT W' base' n c a)->∀f a,W.fa f [] a->cx X.prog X.w X.K X.mg base' W' cf k f [] a
variable{cf:CF}
variable{H:Hp}
theorem AF.conv{W':Wd}{own bor:Addr->Prop}(hK:W'.K=W.K)(hw:W'.w=W.w)(hx:W'.lc=W.lc/\W'.fl=W.fl)(hf:∀i c a,W.fa i c a->W'.fa i c a){c:C}(h:AF W H own bor c v):AF W' H own bor c v:=by
 have cv:∀{p:Nv.P} {v:V},A5 W H p v->A5 W' H p v:=λz=>A5.conv hK hf (AH.refl H) z
 have dv:∀{a:Addr} {kvs:List (Nv.P×Nv.P)} {es:List DictEntry},DD W H a kvs es->DD W' H a kvs es:=λh2=>#[Paired.EW h2.pr λ_ _ z=>#[by rw[hw];exact z.1,let⟨v,a,b⟩:=z.2.1;#[v,a,cv b],let⟨v,a,b⟩:=z.2.2;#[v,a,cv b]],h2.nd,h2.ks,h2.len,h2.sm]
 cases c with
 |p x=>exact cv h
 |lst o ps=>rintro⟨a,vs,e,h1,h2⟩:h;exact#[a,vs,e,by rw[hK];exact h1,Paired.EW h2 λ_ _ z=>cv z]
 |Bl o kvs=>
   rintro⟨a,es,e,h1,h2⟩:h;exact#[a,es,e,by rw[hK];exact h1,dv h2]
 |obj o fs=>
   rintro⟨a,dx,vs,e,h1,h2,h3,h4⟩:h;refine#[a,dx,vs,e,by rw[hx.1,hx.2];exact h1,h2,Paired.EW h3 λd v z=>?_,h4];cases d with
   |p x=>exact cv z
   |d kvs=>rintro⟨b,es,e,g1,g2⟩:z;exact#[b,es,e,by rw[hK];exact g1,dv g2]
variable{p0:Oa}{s:Shared}
theorem To{Y:L2.St}{i:Nat}{x:Str}(I:∅)(hN:X.N[i]? =some x)(hs:Y[i]? =some (some v))(hk:X.env.scope.names.lookup x=some .cell\/X.env.scope.names.lookup x=some .free):
 ∃c u,X.env.cells.lookup x=some c/\s.heap.IsCell c (some u)/\RelV v u:=by
 rintro⟨mm,_,hl⟩:I.loc;rintro⟨u,r,lk⟩:hl i x v hN hs (hk.elim (λz=>.inr (.inl z)) λz=>.inr (.inr z));rcases lk with⟨z,_⟩|⟨_,c,h1,h2⟩
 .have z:X.env.scope.names.lookup x=some .local:=z;rcases hk with y|y
  .rw[z]at y;cases y
  .rw[z]at y;cases y
 .exact#[c,u,h1,h2,r]
theorem F7{cells:List (Str×Addr)}{c:Addr}:∀(l:List (Str×NameKind)) (cs:List (Str×Addr)),(GR cells l cs).lookup x=some c->(∃y∈l,y.1=x/\y.2= .free)\/cs.lookup x=some c
 |[],cs,e=>.inr e
 | (n, k)::r,cs,e=>by
   unfold GR at e
   by_cases hk:(k == NameKind.free)=true
   .rw[iP hk]at e;rcases F7 r _ e with⟨y,h1,h2⟩|h
    .exact .inl #[y,mem_cons_of_mem _ h1,h2]
    .rw[lookup_cons]at h;cases hx:x == n with
     |true=>exact .inl #[(n,k),mS,(eq_of_beq hx).symm,eq_of_beq hk]
     |false=>rw[hx]at h;exact .inr h
   .rw[iN hk]at e;rcases F7 r _ e with⟨y,h1,h2⟩|h
    .exact .inl #[y,mem_cons_of_mem _ h1,h2]
    .exact .inr h
structure UP(X:Cx)(sc:Scope)(as:Arguments)(y:Str)(fr:List Str)(EK:List Nat):Prop where
 kind:sc.kind= .function
 co:sc.isCoroutine=false
 gen:sc.isGenerator=false
 CI:∀z∈sc.names,z.2≠.cell
 own:∀z∈sc.names,z.2= .local->z.1=y
 loc:sc.names.lookup y=some .local
 X0:∀z∈sc.names,z.2= .free->z.1∈fr/\(X.env.scope.names.lookup z.1=some .cell\/X.env.scope.names.lookup z.1=some .free)
 all:∀x∈fr,sc.names.lookup x=some .free
 nd:(y::fr).Nodup
 n:Nf as sc=y::fr
 fb:defaultsOf as X.env=([],[])
 bind:∀b clos pm cc ctv u0,bindArgs (kla_fn "<lambda>" (X.env.qual++"<lambda>") as b sc clos pm cc ctv) #[[u0],[]]=pure [(y,u0)]
 EK:Paired (λx i=>X.N[i]? =some x) fr EK
theorem My :∀{EK:List Nat} {ps:List Nv.P},NB U EK=some ps->∃is:List Int,ps=is.map .int/\Paired (λi (n:Int)=>A8 U i=some (.p (.int n))) EK is
 |[],_,h=>by cases h;exact#[[],rfl,.nil]
 | i ::EK,ps,h=>by
   rintro⟨n,h1,h⟩:Ab h;rintro⟨qs,h2,rfl⟩:AU h;rintro⟨c,e1,e2⟩:Ab h1;rintro⟨is,rfl,hp⟩:My h2
   have:c= .p (.int n):=by
    cases c with
    |p y=>cases y<;>cases e2;rfl
    |_=>cases e2
   exact#[n::is,rfl,.cons (this▸e1) hp]
theorem MT(hK:W.K=X.K){k:Nat}(hr:BU k X.A){ct:Ct}{LT:Nat->Nat->T->Prop}{f l:Nat}{EK:List Nat}{fr:List Str}{te tb:T}{as:Arguments}{pos:Pos}
 (hg:Gl X x)(hm:X.mg x=some (.ref a))(hdb:ng x)(hfa:W.fa f [] a)(h1:AR X W cf e te)(F:Xq X W cf k ct LT lp)(S:UP X sc as y fr EK)(hfn:∀x,X.fn x=true)(ht:kE (ct.lam as sc) b=some tb)(hLT:LT l (y::fr).length tb):
 AR X W cf (.Call (.Name x p) [e,.Lambda as b sc lp] [] pos) (.Kf f te l EK):=by
 refine AR.of hK (λp0 s Y H Q I z=>?_) rfl;rintro⟨U,B,R,hA⟩:z;have hF0:=F.run W X.base #[rfl,rfl,rfl,rfl,rfl,λ_ z=>z,λ_ _ _ z=>z] (λ_ _ z=>z) (λ_ _ _ z=>.inl z) f a hfa;rintro⟨o,fd,q1,q2⟩:hF0.1;rintro⟨cc0,Pt,hcode,hhd,hblt,hgP,hq⟩:F.code;refine wpAny_Call_Name_kw (G0 I hg hm ?_ hdb);refine Calls.callWith_function (o:=o) (fd:=fd) ?_;rw[A2 h1.st,A2 rfl];refine Calls.evalArgs_plain (Calls.spliced_cons (AS (h1.v p0 s Y H (λv H1=>∃c,Ext H H1/\Bx W H1/\rV W B H H1 c v/\D2 W (rV W) B H ((Res.of (NB U EK)).bind λps=>(cf f [c,.p (.fn l ps)]).bind λc=>(Res.of c.EL).bind λb=>.ok (.p (.bl b))) Q) I #[U,B,R,hA.Dm (Ext.refl H) λc v H1 e1 t1 r1 h1=>#[c,e1,t1,r1,h1]]) λu s1 ⟨v,H1,I1,r1,c,e1,t1,rc,hA1⟩=>?_));rintro⟨ps,eps,hA1⟩:hA1.BP;rintro⟨is,rfl,his⟩:My eps;have hfree:∀z∈sc.names,z.2= .free->∃c,X.env.cells.lookup z.1=some c:=λz hz ez=>I1.ok.has z.1 (S.X0 z hz ez).2
 show wpAny _ _ (spliced ((false,eval (.Lambda as b sc lp) X.env)::backTo pos (starEach [] X.env))) _ _ s1;refine Calls.spliced_cons (Pu (clos:=GR X.env.cells sc.names []) I1 t1 F.nd hq S.fb (Cr hfree) hcode (codeHd_of_K I1.ok.mod.By hhd) hblt hgP λc0 cc ctv s2 H2 I2 kp e2 tb2 cd ho hc0 hc0n hold=>Calls.spliced_nil #[#[I2.bk _ _ q1,q2],?_])
 let W':Wd:={W with fa:=λn c d=>W.fa n c d\/(n=l/\c=is.map .int/\d=c0),NA:=(cc,X.env.qual++"<lambda>")::W.NA}
 have hfa':∀n c d,W.fa n c d->W'.fa n c d:=λn c d z=>.inl z
 have hst:TL W W':=#[rfl,rfl,rfl,rfl,rfl,λ_ z=>mem_cons_of_mem _ z,hfa']
 let L:List Addr:=c0::fr.filterMap λx=>X.env.cells.lookup x
 have hLm:∀x c,x∈fr->X.env.cells.lookup x=some c->c∈L:=λx c h1 h2=>mem_cons_of_mem _ (mem_filterMap.mpr #[x,h1,h2])
 have e0 :FR X.prog X.w X.K X.mg (baseOf X.base s2.heap L) X.A X.stack s2 H2:=by
  refine Nt I2 (λb hb=>?_) λb hb hbf=>?_
  .rcases mem_cons.mp hb with z|z
   .rw[z];exact#[_,ho,hc0n]
   .obtain⟨x,h1,h2⟩:=mem_filterMap.mp z;rintro⟨v,o,h3,_⟩:I2.cell x b h2;exact#[o,h3,I2.Ey x b h2]
  .rcases mem_cons.mp (I2.Ge b hbf)with y|y
   .rcases mem_cons.mp hb with z|z
    .have:=I1.lt;rw[<-y,z]at this;exact absurd this (Nat.not_lt.mpr hc0)
    .obtain⟨x,h1,h2⟩:=mem_filterMap.mp z;exact I2.UM x b h2 y
   .rcases mem_cons.mp hb with z|z
    .exact I1.Wn hc0 (z▸y)
    .obtain⟨x,h1,h2⟩:=mem_filterMap.mp z;rintro⟨_,o,ho,_⟩:I2.ok.FK.mem y;exact absurd (hZ ho) (Nat.not_lt.mpr (I2.ok.ai x b (hfn x) h2))
 have clo_in:∀y c,(GR X.env.cells sc.names []).lookup y=some c->X.env.cells.lookup y=some c/\y∈fr:=λy c e=>by
  refine#[EC sc.names [] hfree (λ_ _ z=>by cases z) e,?_];rcases F7 sc.names [] e with⟨z,h1,h2,h3⟩|h
  .rw[<-h2];exact(S.X0 z h1 h3).1
  .cases h
 have clo_at:∀y c,y∈fr->X.env.cells.lookup y=some c->(GR X.env.cells sc.names []).lookup y=some c:=λy c h e=>by
  rintro⟨d,hd⟩:DN (cells:=X.env.cells) (x:=y) sc.names [] (.inl #[(y,.free),PySem.mem_of_lookup (S.all y h),rfl,rfl]);rw[(clo_in y d hd).1]at e;cases e;exact hd
 have R2:=(R.ext e1 t1).ext e2 tb2
 have hcap:∀(i:Nat) (x:Str) (n:Int),fr[i]? =some x->is[i]? =some n->∃c u,X.env.cells.lookup x=some c/\s2.heap.IsCell c (some u)/\RelV (.int n) u:=λi x n ex en=>by
  rintro⟨j,ej,hj⟩:Pd.get S.EK ex;rintro⟨n',en',hn'⟩:Pd.get his ej;rw[en]at en';cases en';rintro⟨v,q3,q4⟩:R2.get j _ hn';cases AZ q4;have hx:=(S.X0 (x,.free) (PySem.mem_of_lookup (S.all x (mem_of_getElem? ex))) rfl).2;exact To I2 hj q3 hx
 have hlen:is.length=fr.length:=by rw[<-Paired.length his,Paired.length S.EK]
 have hclo:EH ct LT W' (baseOf X.base s2.heap L) l (is.map .int) c0:=by
  refine#[X.env.qual++"<lambda>",y,fr,as,b,sc,GR X.env.cells sc.names [],(X.mg "__name__").getD .none,ctv,cc,tb,is,Fb mS ho,mS,#[S.kind,S.co,S.gen,S.CI,S.loc,λx ex=>S.own _ (PySem.mem_of_lookup ex) rfl,S.nd,λy z c h1 h2=>I2.ok.inj y z c (clo_in y c h1).1 (clo_in z c h2).1,λy e=>DN sc.names [] (.inl #[(y,.free),PySem.mem_of_lookup e,rfl,rfl])],S.n,λu0=>S.bind _ _ _ _ _ u0,λy c e=>?_,rfl,hlen,λi x n ex en=>?_,ht,hLT]
  .obtain⟨h1,h2⟩:=clo_in y c e;rintro⟨j,hj⟩:mem_iff_getElem?.mp h2;have hjl:j < fr.length:=(List.getElem?_eq_some_iff.mp hj).1;rintro⟨c',u,g1,⟨o',g2,g3⟩,_⟩:hcap j y _ hj (List.getElem?_eq_getElem (by rw[hlen];exact hjl));rw[h1]at g1;cases g1;exact#[u,o',Fb (hLm y c h2 h1) g2,g3]
  .obtain⟨c',u,g1,⟨o',g2,g3⟩,g4⟩:=hcap i x n ex en;have hx:=mem_of_getElem? ex;exact#[c',u,clo_at x c' hx g1,#[o',Fb (hLm x c' hx g1) g2,g3],g4]
 have F1:=F.run W' (baseOf X.base s2.heap L) hst (λb o e=>GS I2.bk e) (λn c d z=>z.imp id λ⟨h1,h2,h3⟩=>by subst h1 h2 h3;exact hclo) f a hfa
 have tbW:Bx W' H2:=⟨tb2.1,λr hr=>by
  rcases mem_cons.mp hr with z|z
  .rw[z];exact cd
  .exact tb2.2 r z⟩
 have eH:=e1.trans e2;refine wpAny_call (codeAny_mono (F1.2 X.A X.stack s2 H2 [u,.ref c0] [v,.ref c0] Q NE hr e0 (.cons r1 (.cons rfl .nil)) #[[c,.p (.fn l (is.map .int))],λ_=>0,λd=>H d=none,#[v,_,rfl,?_,.ref c0,[],rfl,?_,rfl],tbW,?_]) λr s' hq=>?_)
 .refine AF.conv (W:=W) (W':=W') rfl rfl #[rfl,rfl] hfa' (AF.ext rc e2 (λd z=>#[z,rfl]) λd z=>?_);rintro⟨w0,z⟩:R.FN d z;exact#[BC z,eH.there d w0 z]
 .exact(FW (W:=W') (H:=H2)).mpr #[c0,.inr #[rfl,rfl,rfl],rfl]
 .simp only[map_nil,append_nil];cases er:cf f [c,.p (.fn l (is.map .int))]with
  |stuck=>rw[er]at hA1;exact hA1
  |ok d=>
    rw[er]at hA1;replace hA1:D2 W (rV W) B H ((Res.of d.EL).bind λb=>.ok (.p (.bl b))) Q:=hA1;rintro⟨kb,ekb,hA2⟩:hA1.BP;clear hA1;cases Fz ekb;intro w0 H3 r3;have e3:Ext H H3:=#[λb x q n=>r3.2.2.1 b x (eH.but b x q n) (BC q) n,λb x q=>let⟨y,q⟩:=eH.there b x q;r3.2.2.2.1 b y q];cases (Cz (W:=W') (H:=H3)).mp r3.1;exact hA2 (.bl kb) H3 e3 #[r3.2.1.1,λq hq=>r3.2.1.2 q (mem_cons_of_mem _ hq)] JD
 .cases r with
  |error e=>exact False.elim hq
  |ok fl=>
    cases fl with
    |ret u=>exact I2.after hq
    |next=>exact False.elim hq
    |brk=>exact False.elim hq
    |cont=>exact False.elim hq
theorem G6{fl:List Str}{f:Str}(h:f∉fl):∀vs:List V,(fl.zip vs).lookup f=none:=by
 induction fl with
 |nil=>intro vs;rfl
 |cons g fl ih=>
   intro vs;cases vs with
   |nil=>rfl
   |cons v vs=>
     rw[zip_cons_cons,lookup_cons];have:(f == g)=false:=beq_eq_false_iff_ne.mpr λz=>h (z▸mS)
     rw[this];exact ih (λz=>h (mem_cons_of_mem _ z)) vs
theorem Ib{fl:List Str}(hn:fl.Nodup){f:Str}:∀{j:Nat} {vs:List V} {v:V},fl[j]? =some f->vs[j]? =some v->(fl.zip vs).lookup f=some v:=by
 induction fl with
 |nil=>intro j vs v h;cases h
 |cons g fl ih=>
   intro j vs v h1 h2;rw[nodup_cons]at hn;cases vs with
   |nil=>cases h2
   |cons w vs=>
     rw[zip_cons_cons,lookup_cons];cases j with
     |zero=>cases h1;cases h2;rw[beq_self_eq_true]
     |succ j=>
       have:(f == g)=false:=beq_eq_false_iff_ne.mpr λz=>hn.1 (z▸mem_of_getElem? h1)
       rw[this];exact ih hn.2 h1 h2
section
variable{k n:Nat}{a:Addr}{Q:VK}{sp:Sp}{m:Str}{o:Expr}{es:List Expr}{ts:List T}{x:Str}{p ap pos:Pos}{to:TE}
theorem WR{c:C}(h:c.UA=true):∃o fs,c= .obj o fs:=by
 cases c with
 |obj o fs=>exact#[o,fs,rfl]
 |_=>cases h
theorem PM{c:C}(h:c.Jb=true):∃fs,c= .obj true fs:=by
 cases c with
 |obj o fs=>cases (show o=true from h);exact#[fs,rfl]
 |_=>cases h
theorem Jw{env:PySem.Env}(h:env=X.env):∀{es:List Expr} {ts:List T},E6 X W cf es ts->(backTo pos (starEach es env)).all (!·.1)=true
 |_,_,.nil=>rfl
 | _,_,.cons he hs=>by
   rw[A2 he.st];have:=Jw h hs;unfold backTo at this ⊢;rw[map_cons,all_cons,this];rfl
theorem Su(hs:E6 X W cf es ts)(hmo:Ja es.length ap pos=true):eval (.Call (.Attribute (.Name x p) m ap) es [] pos) X.env=(do
 let ov <-eval (.Name x p) X.env
 standAt ap.atName
 let(f,first) <-holding [ov] (getMethod ov m (do return (<-importBound (.Name x p) X.env).getD true))
 callWith pos f first (backTo pos (starEach es X.env)) (backToKw pos (keywordEach [] X.env))):=by
 unfold Ja at hmo;rw[bA,decide_eq_true_eq]at hmo
 have few:methodCallForm (es.length + ([]:List Keyword).length) (backTo pos (starEach es X.env)) (backToKw pos (keywordEach [] X.env))=true:=by
  unfold methodCallForm;rw[Jw rfl hs,show(backToKw pos (keywordEach [] X.env))=[]from rfl];simp
  lia
 show(do
  let ov <-attributeBase (.Name x p) m X.env (eval (.Name x p) X.env)
  standAt ap.atName
  methodCall (.Name x p) m ap pos X.env ov (es.length+([]:List Keyword).length) (backTo pos (starEach es X.env)) (backToKw pos (keywordEach [] X.env)))=_
 rw[show attributeBase (.Name x p) m X.env (eval (.Name x p) X.env)=eval (.Name x p) X.env from rfl];unfold methodCall calleeOf methodCallPos;rw[few];simp[hmo.1]
def cM(W:Wd)(cf:CF)(m:Str)(sp:Sp)(ts:List T)(to:TE):TE:=λY H Q=>to Y H λx H1=>∃a dx fs,x= .ref a/\H1 a=some (.ins W.lc dx fs)/\fs.lookup m=none/\tG W (NK W) (BK cf ts) Y H1 λvs H2=>sp (x::vs) H2 Q NE
theorem Um(c:Kq X.K W.lc)(hm:Meth X.K W.lc m a)(F:QL X.prog X.w X.K X.mg X.base sp k a)(hr:BU k X.A)(hmo:Ja es.length ap pos=true)(ho:PE X (.Name x p) to)(hs:E6 X W cf es ts):PE X (.Call (.Attribute (.Name x p) m ap) es [] pos) (cM W cf m sp ts to):=by
 intro p0 s Y H Q I h;refine PySem.W.methodCall_KW (AS (ho p0 s Y H _ I h) λu s1 ⟨x,H1,I1,rx,a,dx,fs,ex,ea,l,q⟩=>?_) (Su hs hmo);subst ex;obtain rfl:u=Value.ref a:=rx;refine Lh I1 ea c hm l ?_;exact Gh (fst:=[.ref a]) (fvs:=[.ref a]) F hr (.cons rfl .nil) hs I1 q
theorem V6{F:Env->Res C}{Fs:Env->Res (List C)}{f:Nat}(hf:m∉W.fl)(h:tG W (rV W) (λU=>(F U).bind λc=>if c.UA then(Fs U).bind λcs=>cf f (c::cs)else .stuck) Y H Q):
 tG W (rV W) F Y H λx H1=>∃a dx fs,x= .ref a/\H1 a=some (.ins W.lc dx fs)/\fs.lookup m=none/\tG W (NK W) Fs Y H1 λvs H2=>QP W (cf f) (x::vs) H2 Q NE:=by
 rintro⟨U,B,R,hA⟩:h;refine#[U,B,R,hA.Dm (Ext.refl H) λc v H1 e1 t1 r1 h1=>?_];cases ho:c.UA with
 |false=>rw[ho]at h1;exact h1.elim
 |true=>
 rw[ho,iP rfl]at h1;rintro⟨o,fs,rfl⟩:WR ho;have r0:=r1;rintro⟨a,dx,vs,rfl,ha,_⟩:r0;refine#[a,dx,_,rfl,ha,G6 hf vs,U,B,R.ext e1 t1,h1.Dm e1 λcs us H2 e2 t2 ⟨O,r⟩ h2=>#[.obj o fs::cs,λb=>open Classical in if H1 b=none then O b+1 else 0,λb=>H b=none,#[.ref a,us,rfl,?_,BB.shift (r.imp (Ext.refl _) (λj b z=>#[e1.none z.1,(iP z.1).trans (by rw[z.2])]) λb z=>?_)],t2,?_]]
 .exact AF.mono r1 e2.keep (λb y p q n=>#[e2.but b y q n,p,iN (BC q)]) λb y p q n=>let⟨z,w⟩:=R.FN b p;#[e2.but b y q n,BC w,(e1.trans e2).there b z w]
 .obtain⟨y,q⟩:=R.FN b z;exact#[BC q,(e1.trans e2).there b y q]
 .cases er:cf f (.obj o fs::cs)with
  |stuck=>rw[er]at h2;exact h2
  |ok c=>
    rw[er]at h2;have e3:=e1.trans e2;exact λv H' r=>h2 v H' (QM.ext e3 (λb x q=>BC q) r.2) r.2.1 (r.1.ext (Ext.refl _) (λa z=>z.elim e3.none id) λ_ z=>z.elim)
theorem Of(hK:W.K=X.K)(c:Kq X.K W.lc)(hm:Meth X.K W.lc m a)(hf:m∉W.fl)(F:Fv X W cf k n [] a)(hr:BU k X.A)(hmo:Ja es.length ap pos=true)(ho:AR X W cf (.Name x p) t)(hs:E6 X W cf es ts):AR X W cf (.Call (.Attribute (.Name x p) m ap) es [] pos) (.Bq n t ts):=by
 have F':QL X.prog X.w X.K X.mg X.base (QP W (cf n)) k a:=by
  have:(λcs=>cf n (cs++([]:List P).map .p))=cf n:=funext λcs=>by rw[map_nil,append_nil]
  rw[<-this];exact F
 exact AR.of hK (Ai (Um c hm F' hr hmo ho.v hs) λY H Q z=>V6 hf z) rfl
theorem run_mk{us:List Value}{vs:List V}(M:Mk X.K W.lc a)(F:QL X.prog X.w X.K X.mg X.base sp k a)(hr:BU (k + 1) X.A)(I:∅)(r:Vals vs us)
 (h:∀x dx,H x=none->H dx=none->dx≠x->sp (.ref x::vs) (upd (upd H dx (.own x)) x (.ins W.lc dx [])) (λv H2=>v= .AG/\Q (.ref x) H2) NE):(X|||(call (.ref W.lc) us)) (EP X p0 Y Q) X.xe s:=by
 have hq:=h (s.heap.objs.size+1) s.heap.objs.size (I.Aj.fresh (Nat.le_succ _)) (I.Aj.fresh (Nat.le_refl _)) (Nat.ne_of_lt (Nat.lt_succ_self _));have I2:=Inv.made (C:=W.lc) I;refine wpAny_call (Pc (f:=a) I.Gz M.makes M.init (beq_iff_eq.mp M.fn) (codeAny_mono (F.2 _ X.stack _ _ (Value.ref (s.heap.objs.size+1)::us) (V.ref (s.heap.objs.size+1)::vs) _ NE (hr.make W.lc us []) (I2.ZC.make W.lc us []) (.cons rfl r) hq) λr s' hq'=>?_));cases r with
 |error e=>exact False.elim hq'
 |ok fl=>
   cases fl with
   |ret u=>
     rintro⟨v,H',I3,rv,ev,q3⟩:I2.after hq';subst ev;exact#[rv,#[V.ref (s.heap.objs.size+1),H',I3,rfl,q3]]
   |next=>exact False.elim hq'
   |brk=>exact False.elim hq'
   |cont=>exact False.elim hq'
theorem Og(hK:W.K=X.K)(M:Mk X.K W.lc a)(F:QL X.prog X.w X.K X.mg X.base (Vl W (cf n)) k a)(hr:BU (k + 1) X.A)(hg:Gl X x)(hm:X.mg x=some (.ref W.lc))(hdb:ng x)(he:AR X W cf e t):AR X W cf (.Call (.Name x p) [e] [] pos) (.make n [t]):=by
 refine AR.of hK (Ai (t:=U9 W.lc (Vl W (cf n)) [] NE (tG W (NK W) (BK cf [t]))) ?_ λY H Q z=>V7 z) rfl;intro p0 s Y H Q I h;refine wpAny_Call_Name_kw (G0 I hg hm ?_ hdb);refine PySem.W.callWith_K (h₀:=X.base) I.ok.mod.By M.kp (AS (OT (.cons he .nil) pos p0 s Y H _ I h) λus s1 ⟨vs,H1,I1,r,q⟩=>#[I1.Gz,?_]) (A2 he.st [] _) rfl;exact run_mk M F hr I1 r λx dx h1 h2 h3=>by have:=q x dx h1 h2 h3;rwa[append_nil]at this
variable{j:Nat}
theorem Yq{F:Env->Res C}{f:Str}(hn:W.fl.Nodup)(hj:W.fl[j]? =some f)(c:Kq X.K W.lc)(na:C5 X.K W.lc f)(h:tG W (rV W) (λU=>(F U).bind λc=>Res.of (DA j c)) Y H Q):Ve X.K (tG W (rV W) F) f Y H Q:=by
 rintro⟨U,B,R,hA⟩:h;refine#[U,B,R,hA.step Au λc v H1 _ e1 t1 r1 h1=>?_];rintro⟨d,ed,h2⟩:h1.of;clear h1;rintro⟨fs,e2,e3⟩:Ab ed;rintro⟨fd,e4,rfl⟩:AU e3;cases c with
 |obj o gs=>
   cases o with
   |true=>cases e2
   |false=>
     cases e2;rintro⟨a,dx,vs,rfl,ha,hb,hp,_⟩:r1;rintro⟨u,e5,e6⟩:Pd.get hp e4;refine#[a,_,dx,_,u,rfl,ha,c,na,Ib hn hj e5,h2 u H1 (Ext.refl _) t1 ?_];cases fd with
     |p x=>exact e6
     |d kvs=>exact e6
 |_=>cases e2
theorem Rv(hK:W.K=X.K){f:Str}(hn:W.fl.Nodup)(hj:W.fl[j]? =some f)(c:Kq X.K W.lc)(na:C5 X.K W.lc f)(ho:AR X W cf (.Name x p) t):AR X W cf (.Attribute (.Name x p) f pos) (.Ak (DA j) t):=
 AR.of hK (Ai (OQ ho.v rfl) λY H Q z=>Yq hn hj c na z) rfl
end
variable{Hin:Hp}{A0:Addr->Prop}{Bo:Nat->Addr->Prop}{D:Ends}
theorem Ov{own own':Nat->Addr->Prop}{bor:Addr->Prop}:∀{cs:List C} {j j':Nat} {vs:List V},cs.all C.WQ=true->BB W H own bor j cs vs->BB W H own' bor' j' cs vs
 |[],_,_,_,_,h=>h
 | c::cs,j,j',_,hp,⟨v,r,q,h1,h2⟩=>by
   rw[all_cons,bA]at hp;refine#[v,r,q,?_,Ov hp.2 h2];cases c with
   |p x=>exact h1
   |_=>cases hp.1
theorem Aq.called{i:Nat}{c c':C}{v:V}{H2:Hp}(S:Aq W Hin A0 Bo H U Y)(hO:∀i c,A8 U i=some c->∃v,Y[i]? =some (some v)/\AF W H (λa=>O a=i/\(Hin a=none\/A0 a)) (Bo i) c v)
 (hg:A8 U i=some c)(hx:Y[i]? =some (some v))(r:DB W H (λa=>O a=i/\(Hin a=none\/A0 a)) c' v H2)(ho:c'.own=true):Aq W Hin A0 Bo H2 (U.set i (some c')) Y:=by
 rintro⟨r1,r2,r3,r4,r5⟩:r
 have Sn:∀b,((∃x,Hin b=some x)/\¬A0 b)->¬(O b=i/\(Hin b=none\/A0 b)):=λb h z=>by
  rintro⟨⟨x,q⟩,n⟩:h;rcases z.2 with k|k
  .rw[k]at q;cases q
  .exact n k
 refine#[by rw[length_set];exact S.len,r2,#[λb=>open Classical in if H b=none\/O b=i then i else O b,λj d q=>?_],S.bo,λb y q n nt=>?_,λb y q=>?_,S.kp.trans r5]
 .rw[Cq]at q;split at q
  .rename_i hij;subst hij;rw[iP (IM hg)]at q;cases q;exact#[v,hx,D5 ho r1 λa x z _=>#[iP (z.imp id (·.1)),z.elim (λk=>.inl (S.new k)) (·.2)]]
  .rename_i hij;rintro⟨u,q1,q2⟩:hO j d q;refine#[u,q1,q2.mono r5 (λb y p k n=>#[r3 b y k (λz=>hij (z.1.symm.trans p.1)) n,?_,p.2]) λb y p k n=>#[r3 b y k (Sn b (S.bo j b p)) n,p]];exact(iN λz=>z.elim (BC k) λz=>hij (z.symm.trans p.1)).trans p.1
 .exact r3 b y (S.EZ b y q n nt) (Sn b #[#[y,q],n]) nt
 .obtain⟨z,q⟩:=S.FN b y q;exact r4 b z q
theorem RF{i f:Nat}{m:Str}{ts:List T}(hf:m∉W.fl)(h:tS W [] (Nv.exec cf As (.HQ i f ts)) D Y H):Jq (cM W cf m (Vl W (cf f)) ts (EO i)) D Y H:=by
 rintro⟨Hin,A0,Bo,U,S,hA⟩:h
 replace hA:Bh W Hin A0 Bo [] D Y (match A8 U i with
  |some c=>if c.Jb then(BK cf ts U).fl λcs=>if cs.all C.WQ then(cf f (c::cs)).fl λc'=>if c'.Jb then .nx (U.set i (some c'))else .stuck else .stuck else .stuck
  |none=>.stuck):=hA
 rintro⟨O0,hO0⟩:S.env;cases hg:A8 U i with
 |none=>rw[hg]at hA;exact hA.elim
 |some c=>
   rw[hg]at hA;cases hm:c.Jb with
   |false=>simp only[hm]at hA;exact hA.elim
   |true=>
     simp only[hm,if_true]at hA;rintro⟨fs,rfl⟩:PM hm;rintro⟨v,q1,q2⟩:hO0 i _ hg;rintro⟨a,dx,vs,rfl,ha,_⟩:q2;refine#[_,q1,a,dx,_,rfl,ha,G6 hf vs,U,_,S.rev,hA.step S λcs us H1 e t ⟨P,r⟩ h1=>?_];have S1:=S.ext e t;rintro⟨O,hO⟩:S1.env;rintro⟨v',k1,k2⟩:hO i _ hg;rw[q1]at k1;cases k1;cases hp:cs.all C.WQ with
     |false=>simp only[hp]at h1;exact h1.elim
     |true=>
       simp only[hp,if_true]at h1;refine#[.obj true fs::cs,λb=>if O b=i then 0 else 1,λb=>O b=i/\(Hin b=none\/A0 b),#[.ref a,us,rfl,D5 rfl k2 λb x z _=>#[z,iP z.1],Ov hp r],t,?_];cases er:cf f (.obj true fs::cs)with
       |stuck=>rw[er]at h1;exact h1
       |ok c'=>
         rw[er]at h1;intro v H' r' hv;cases hv;cases hm':c'.Jb with
         |false=>simp only[Res.fl,hm']at h1;exact h1.elim
         |true=>
           simp only[Res.fl,hm',if_true]at h1;rintro⟨gs,rfl⟩:PM hm';exact h1 Y H' (S1.called hO hg q1 r' rfl) (AL.refl _ _)
theorem Oz{f:Str} :∀{fl:List Str} {vs:List V},fl.Nodup->fl[vs.length]? =some f->L2.Bz f y (fl.zip vs)=fl.zip (vs++[y]):=by
 intro fl
 induction fl with
 |nil=>intro vs _ h;cases h
 |cons g fl ih=>
   intro vs hn h;rw[nodup_cons]at hn;cases vs with
   |nil=>cases h;rw[List.zip_nil_right];cases fl<;>rfl
   |cons v vs=>
     have hg:¬g=f:=λz=>hn.1 (z▸mem_of_getElem? (show fl[vs.length]? =some f from h))
     show(if g=f then(g,y)::fl.zip vs else(g,v)::L2.Bz f y (fl.zip vs))=(g,v)::fl.zip (vs++[y]);rw[iN hg,ih hn.2 h]
theorem Aq.Zq(i:Nat)(e:Ext H H1)(hO:∀i c,A8 U i=some c->∃v,Y[i]? =some (some v)/\AF W H (λa=>O a=i/\(Hin a=none\/A0 a)) (Bo i) c v):
 ∀j c,A8 U j=some c->∃v,Y[j]? =some (some v)/\AF W H1 (λa=>(if(H a).isNone then i else O a)=j/\(Hin a=none\/A0 a)) (Bo j) c v:=λj d q=>by
 rintro⟨u,q1,q2⟩:hO j d q;refine#[u,q1,q2.mono e.keep (λa x p k n=>#[e.but a x k n,?_,p.2]) λa x p k n=>#[e.but a x k n,p]];show(if(H a).isNone then i else O a)=j;rw[k];exact p.1
theorem Pd.zip{β:Type}{F:α->β->Prop}:∀{xs:List α} {ys:List β},Paired F xs ys->∀p∈xs.zip ys,F p.1 p.2
 |_,_,.nil,p,h=>by cases h
 | _,_,.cons h t,p,hp=>by
   rcases mem_cons.mp hp with rfl|hp
   .exact h
   .exact Pd.zip t p hp
theorem T9{fs:List Fd}{d:Fd}{y:V}(hl:fs.length=vs.length)(h:TU fs vs)(hd:d.XD=true->∀p∈fs.zip vs,p.1.XD=true->p.2≠y):TU (fs++[d]) (vs++[y]):=by
 unfold TU at h ⊢;rw[List.zip_append hl,List.pairwise_append];refine#[h,List.pairwise_singleton _ _,λp hp q hq h1 h2=>?_];rw[zip_cons_cons,List.zip_nil_left,mem_singleton]at hq;subst hq;exact hd h2 p hp h1
theorem KW{C dx:Addr}{fs:List (Str×V)}:XO (.ins C dx fs):=#[(λ_ z=>nomatch z),(λ_ _ z=>nomatch z),rfl]
theorem K2{own bor own':Addr->Prop}{d:Fd}{o:HO}(h:Dk W H own bor true d v)(ha:H a=some o)(mu:XO o)(hd:∀b es,o≠DX b es)(ho:∀b x,own b->H b=some x->own' b):Dk W (upd H a o') own' bor' true d v:=by
 have kp:AH H (upd H a o'):=BR ha mu.1 mu.2.1;cases d with
 |p x=>exact A5.mono kp h
 |d kvs=>
   rintro⟨b,es,e,h1,h2⟩:h;refine#[b,es,e,#[?_,ho b _ h1.2 h1.1],h2.mono kp];have h3:H b=some (DX b es):=h1.1;rw[A4 λz=>by rw[z,ha]at h3;exact hd _ _ (Option.some.inj h3)];exact h3
theorem Aq.grow{i:Nat}{fs:List Fd}(S:Aq W Hin A0 Bo H U Y)(e:Ext H H1)(t:Bx W H1)(hg:A8 U i=some (.obj true fs)):∃a dx vs,Y[i]? =some (some (.ref a))/\H1 a=some (.ins W.lc dx (W.fl.zip vs))/\vs.length=fs.length/\
 ∀d y B,Dk W H1 (λb=>H b=none) B true d y->Aq W Hin A0 Bo (upd H1 a (.ins W.lc dx (W.fl.zip (vs++[y])))) (U.set i (some (.obj true (fs++[d])))) Y:=by
 rintro⟨O,hO⟩:S.env;have S1:=S.ext e t;have hO1:=Aq.Zq (H1:=H1) i e hO;rintro⟨v,q1,q2⟩:hO i _ hg;rintro⟨a,dx,vs,rfl,ha,ho,hp,hd⟩:q2;have hl:=Paired.length hp;have h1a:H1 a=some (.ins W.lc dx (W.fl.zip vs)):=e.but a _ ha rfl;have oa:(if(H a).isNone then i else O a)=i/\(Hin a=none\/A0 a):=#[by rw[ha];exact ho.1,ho.2];refine#[a,dx,vs,q1,h1a,hl.symm,λd y B hy=>S1.chg hO1 hg q1 oa h1a KW #[a,dx,vs++[y],rfl,A6,oa,?_,?_]]
 .refine Pd.append (Paired.EW hp λd v z=>K2 (z.mono e.keep (λb x p q n=>#[e.but b x q n,?_]) λb x p q n=>#[e.but b x q n,p]) h1a KW (λ_ _ z=>HO.noConfusion z) λb x z _=>z) (.cons (K2 hy h1a KW (λ_ _ z=>HO.noConfusion z) λb x z q=>#[?_,.inl (S.new z)]) .nil)
  .exact#[by rw[q];exact p.1,p.2]
  .rw[show H b=none from z];rfl
 .refine T9 hl hd λh1 p hp' h2 z=>?_
  have f1:=Pd.zip hp p hp';rintro⟨p1,p2⟩:p;cases p1 with
  |p x=>cases h2
  |d kvs=>
    cases d with
    |p x=>cases h1
    |d kvs'=>
      rintro⟨b,es,e1,e2,_⟩:f1;rintro⟨b',es',e3,e4,_⟩:hy;cases (e1.symm.trans z).trans e3;exact BC e2.1 e4.2
theorem Vs{K:Frag}{i n:Nat}{f:Str}{t:T}(hn:W.fl.Nodup)(hfl:W.fl.length < 1000)(hf:W.fl[n]? =some f)(hc:Kq K W.lc)(na:C5 K W.lc f)(h:tS W [] (Nv.exec cf As (.Ce i false (EJ (FF n)) [t])) D Y H):YD K (EO i) (Xv (tG W (rV W) (ev cf t))) f D Y H:=by
 rintro⟨Hin,A0,Bo,U,S,hA⟩:h
 replace hA:Bh W Hin A0 Bo [] D Y (if !(A8 U i).any (λ_=>true)then .stuck else((ev cf t U).bind λc=>(Res.ok []:Res (List C)).bind λcs=>.ok (c::cs)).fl λcs=>match(A8 U i).bind λc=>EJ (FF n) c cs with
  |some c'=>.nx (U.set i (some c'))
  |none=>.stuck):=hA
 cases hg:A8 U i with
 |none=>simp only[hg]at hA;exact hA.elim
 |some c=>
   simp only[hg,Option.any_some,Bool.not_true,Bool.false_eq_true,if_false,Option.bind_some]at hA
   rw[show(((ev cf t U).bind λc=>(Res.ok []:Res (List C)).bind λcs=>.ok (c::cs)).fl λcs=>match EJ (FF n) c cs with
     |some c'=>Fl.nx (U.set i (some c'))
     |none=>.stuck)=(ev cf t U).fl λx=>match FF n c x with
     |some c'=>.nx (U.set i (some c'))
     |none=>.stuck from by cases ev cf t U<;>rfl]at hA
   refine#[U,_,S.rev,hA.step S λx y H1 e t r h1=>?_];cases es:FF n c x with
   |none=>rw[es]at h1;exact h1.elim
   |some c'=>
     rw[es]at h1;rintro⟨fs,e1,e2⟩:Ab es
     have ec:c= .obj true fs:=by
      cases c with
      |obj o gs=>
        cases o with
        |true=>cases e1;rfl
        |false=>cases e1
      |_=>cases e1
     subst ec;split at e2
     case isFalse=>cases e2
     rename_i hl;rintro⟨d,e3,rfl⟩:AU e2
     have fin:∀H2,Ext H H2->Bx W H2->Dk W H2 (λb=>H b=none) (λ_=>∃x,H2=x) true d y->EO i Y H2 λx H3=>∃a C dx fs,x= .ref a/\H3 a=some (.ins C dx fs)/\Kq K C/\C5 K C f/\fs.length < 1000/\D.nx Y (upd H3 a (.ins C dx (L2.Bz f y fs))):=λH2 e2 t2 hy=>by
      rintro⟨a,dx,vs,q1,q2,q3,q4⟩:S.grow e2 t2 hg;refine#[_,q1,a,_,dx,_,rfl,q2,hc,na,?_,?_]
      .rw[length_zip];lia
      .rw[Oz hn (by rw[q3,hl];exact hf)];exact h1 Y _ (q4 d y _ hy) (AL.refl _ _)
     cases x with
     |p z=>cases e3;exact .inl (fin H1 e t r)
     |obj _ _=>cases e3
     |Bl o kvs=>
       cases o with
       |false=>cases e3
       |true=>
         cases e3;rintro⟨b,es,k1,k2,k3⟩:r;exact .inl (fin H1 e t #[b,es,k1,k2,k3])
     |lst o ps=>
       cases o with
       |false=>cases e3
       |true=>
         cases e3;rintro⟨b,us,rfl,⟨k1,k2⟩,k3⟩:r;exact .inr #[b,us,rfl,k1,λo=>fin _ (IV (u:=.lst us) e k2) (Ih t k1 (λ_ z=>nomatch z) (λ_ _ z=>nomatch z) rfl) (CN.mpr #[b,us,rfl,#[rfl,o,A6],k3.mono (BR k1 (λ_ z=>nomatch z) λ_ _ z=>nomatch z)])]
structure XM(a b:Scope):Prop where
 loc:∀x,a.names.lookup x=some .local->b.names.lookup x=some .local
 ah:∀x,a.names.lookup x=some .cell->b.names.lookup x=some .cell
 X0:∀x,a.names.lookup x=some .free->b.names.lookup x=some .free\/b.names.lookup x=some .cell
 eR:∀x,a.names.lookup x=some .globalImplicit->b.names.lookup x=some .globalImplicit
theorem XM.refl(a:Scope):XM a a:=#[λ_ h=>h,λ_ h=>h,λ_ h=>.inl h,λ_ h=>h]
theorem Cf{env:PySem.Env}:∀{names:List (Str×NameKind)} {x:Str},names.lookup x=some .globalImplicit->
 (names.map λ(n,k)=>if(k^^^n&&&env)then(n,NameKind.cell)else(n,k)).lookup x=some .globalImplicit
 |[],_,h=>by simp at h
 | (n,k)::r,x,h=>by
   have ih:=@Cf env r x;rw[map_cons];cases hx:x == n with
   |true=>
     simp only[lookup_cons,hx]at h;cases h;simp[lookup_cons,hx]
   |false=>
     simp only[lookup_cons,hx]at h;dsimp only;split
     .simp only[lookup_cons,hx];exact ih h
     .simp only[lookup_cons,hx];exact ih h
structure Bb(ct:Ct)(X:Cx)(W:Wd)(cf:CF)(k:Nat):Prop where
 K:W.K=X.K
 w:W.w=X.w
 N:X.N=ct.N
 nd:X.N.Nodup
 sc:XM ct.sc X.env.scope
 fn:ct.df=true->∀x,X.fn x=true
 calm:X.calm=true
 room:BU (k+1) X.A
 po:PassesOwn (model X.prog X.w) X.A X.env X.xe
 gl:∀x c,ct.gl.lookup x=some c->∃u v,X.mg x=some u/\RelV v u/\∀H own bor,AF W H own bor c.bor v
 own:∀x∈J6,ct.gl.lookup x=none->ct.fns.lookup x=none->ct.cls.lookup x=none->X.mg x=none
 fns:∀x f,ct.fns.lookup x=some f->∃a,X.mg x=some (.ref a)/\W.fa f [] a/\Fv X W cf k f [] a
 Uv:Kq X.K W.lc
 fld:W.fl=ct.fld/\ct.fld.Nodup/\ct.fld.length < 1000/\∀f∈ct.fld,C5 X.K W.lc f
 NN:∀m f,ct.NN.lookup m=some f->m∉W.fl/\∃a,Meth X.K W.lc m a/\Fv X W cf k f [] a
 NM:∀m f,ct.NM.lookup m=some f->m∉W.fl/\∃a,Meth X.K W.lc m a/\Fm X W cf k f a
 cls:∀x f,ct.cls.lookup x=some f->X.mg x=some (.ref W.lc)/\∃a,Mk X.K W.lc a/\Fm X W cf k f a
 fv:∀n caps a,W.fa n caps a->Fv X W cf k n caps a
 lam:∀lp l,ct.Nd.lookup lp=some l->Xq X W cf k ct (λl n t=>ct.lt l n t=true) lp
section
variable{ct:Ct}{k:Nat}
theorem Cp{l:List Str}{i:Nat}(h:l.idxOf? x=some i):l[i]? =some x:=by
 unfold List.idxOf? at h;rintro⟨h1,h2,_⟩:List.findIdx?_eq_some_iff_getElem.mp h;rw[List.getElem?_eq_getElem h1];exact congrArg some (beq_iff_eq.mp h2)
theorem Ek(h:Gu x=true):ng x/\(x == ("__classdict__":Str))=false/\x≠"__name__":=by
 unfold Gu at h;rw[bA,bA]at h;exact#[by simpa using h.1.1,by simpa using h.1.2,of_decide_eq_true h.2]
theorem Bb.slot(L:Bb ct X W cf k){i:Nat}(h:ct.slot x=some i):X.N[i]? =some x/\ak X.env.scope x/\ng x/\(x == ("__classdict__":Str))=false:=by
 unfold Ct.slot at h;split at h
 .rename_i hc;rw[bA]at hc;rintro⟨n1,n2,_⟩:Ek hc.1;refine#[by rw[L.N];exact Cp h,?_,n1,n2];have hs:=hc.2;unfold seen at hs;split at hs
  .rename_i e;exact .inl (L.sc.loc x e)
  .rename_i e;exact .inr (.inl (L.sc.ah x e))
  .rename_i e;rcases L.sc.X0 x e with z|z
   .exact .inr (.inr z)
   .exact .inr (.inl z)
  .cases hs
 .cases h
theorem Bb.Cy(L:Bb ct X W cf k){i:Nat}(h:ct.Cy x=some i):X.N[i]? =some x/\Loc X.env.scope x/\(X.fn x=true\/X.env.scope.names.lookup x=some .local):=by
 unfold Ct.Cy at h;split at h
 .rename_i hc;rw[bA]at hc;refine#[by rw[L.N];exact Cp h,?_];have hs:=hc.2;unfold bound at hs;split at hs
  .rename_i e;exact#[.inl (L.sc.loc x e),.inr (L.sc.loc x e)]
  .rename_i e;exact#[.inr (L.sc.ah x e),.inl (L.fn hs x)]
  .cases hs
 .cases h
theorem Bb.glob(L:Bb ct X W cf k)(h:ct.glob x=true):Gl X x/\ng x/\x≠"__name__":=by
 unfold Ct.glob at h;rw[bA]at h;rintro⟨n1,_,n3⟩:Ek h.1;exact#[L.sc.eR x (of_decide_eq_true h.2),n1,n3]
theorem Bb.ET(L:Bb ct X W cf k)(h:ct.own x=true):Gl X x/\X.mg x=none/\ng x/\x≠"__name__":=by
 unfold Ct.own at h;simp only[bA]at h;rintro⟨⟨⟨⟨h1,h2⟩,h3⟩,h4⟩,h5⟩:h;rintro⟨g1,g2,g3⟩:L.glob h1;exact#[g1,L.own x (by simpa using h2) (by simpa using h3) (by simpa using h4) (by simpa using h5),g2,g3]
theorem Bb.un(L:Bb ct X W cf k):X.A.units+200 < cLine:=by have:=L.room.un;lia
theorem Bb.pv(L:Bb ct X W cf k){i:Nat}(h:ct.slot x=some i):PE X (.Name x p) (EO i):=by
 rintro⟨h1,h2,h3,h4⟩:L.slot h;exact OM h1 h2 h3 h4
variable{sc:Scope}
theorem Bb.dq(L:Bb ct X W cf k){N:List Str}{fr:List (Option Nat)}(h:Qy ct.N ct.sc N sc fr=true):De X.N X.env.scope N sc fr:=by
 have h0:LB ct.N ct.sc N sc fr=true:=h;have ok:=De.of h0;refine#[ok.kind,ok.CI,ok.own,λy hy e=>?_,ok.len,by rw[L.N];exact ok.EZ];rcases ok.free y hy e with z|z
 .exact .inl (L.sc.ah _ z)
 .rcases L.sc.X0 _ z with q|q
  .exact .inr q
  .exact .inl q
theorem lookup_mem{α:Type}{l:List (Str×α)}{a:α}(h:l.lookup x=some a):(x,a)∈l:=PySem.mem_of_lookup h
theorem Bb.block(L:Bb ct X W cf k)(h:Qy ct.N ct.sc (ct.block sc).1.N sc (ct.block sc).2=true)(hn:(ct.block sc).1.N.Nodup)(C:Addr)(s:Shared)(H:Hp)(fp:List Addr):Bb (ct.block sc).1 (AQ X (ct.block sc).1.N sc C s H fp) W cf k:=by
 have ok:=L.dq h;refine#[L.K,L.w,rfl,hn,#[λx e=>?_,λx e=>?_,λx e=>?_,λx e=>?_],λz=>(by cases z),L.calm,L.room,PassesOwn.never,L.gl,L.own,L.fns,L.Uv,L.fld,L.NN,L.NM,L.cls,L.fv,λlp q e=>(by cases e)]
 .exact lookup_relabel_local e
 .exact absurd rfl (ok.CI _ (lookup_mem e))
 .exact BJ e
 .exact Cf e
theorem Km{es:List Expr}{env:PySem.Env}:assignEach (.Name x p::es) env=(false,assign (.Name x p) env)::assignEach es env:=rfl
theorem KN(L:Bb ct X W cf k):∀{es:List Expr} {is:List Nat},JV ct es=some is->XN X es (XF is)/\(assignEach es X.env).length=is.length/\(assignEach es X.env).findIdx? (·.1)=none/\∀i∈is,i < X.N.length
 | [],is,h=>by
   unfold JV at h;cases h;exact#[RX,rfl,rfl,λi hi=>by cases hi]
 | e ::es,is,h=>by
   cases e with
   |Name x p=>
     rintro⟨i,h1,h2⟩:Ab h;replace h1:ct.Cy x=some i:=h1;rintro⟨js,h3,rfl⟩:oM h2;rintro⟨q1,q2,q3,q4⟩:KN L h3;rintro⟨t1,t2,t3⟩:L.Cy h1;refine#[OI (M9 L.nd t1 t2 t3) q1 rfl,by rw[Km,lC,lC,q2],?_,λj hj=>?_]
     .rw[Km,List.findIdx?_cons,q3];rfl
     .rcases mem_cons.mp hj with z|z
      .rw[z];exact(List.getElem?_eq_some_iff.mp t1).1
      .exact q4 j z
   |_=>rintro⟨i,h1,h2⟩:Ab h;cases h1
theorem OL(L:Bb ct X W cf k){tg:Expr}{g:Tg}(h:Xz ct tg=some g):PG X tg (gT W g)/\∀i∈g.slots,i < X.N.length:=by
 cases tg with
 |Name x p=>
   unfold Xz at h;rintro⟨i,h1,rfl⟩:oM h;rintro⟨t1,t2,t3⟩:L.Cy h1;refine#[M9 L.nd t1 t2 t3,λj hj=>?_];rw[mE hj];exact(List.getElem?_eq_some_iff.mp t1).1
 |Tuple es n p=>
   unfold Xz at h;rintro⟨is,h1,rfl⟩:oM h;rintro⟨q1,q2,q3,q4⟩:KN L h1;refine#[?_,q4];show PG X (.Tuple es n p) (WY W.K is.length (XF is));rw[L.K];exact OJ L.calm q1 q2 q3
 |_=>unfold Xz at h;cases h
end
structure TN(ct:Ct)(X:Cx)(W:Wd):Prop where
 bin:∀op g,bB op=some g->BG X (binaryOp op) (AV W g)
 cmp:∀op,BG X (compareOp op) (AV W (Nh op))
 neg:Hj X (unaryOp .USub) (BZ W (Hc N5))
 ix:QK X (AV W Ae)
 sl:Xn X (λx lo hi H Q=>∃c r,Dj W H c x/\Jy lo hi c=some r/\Cc W H r Q)
 eW:∀{x:Str} {g:C->Option C} {p pos:Pos} {e:Expr} {te:TE},ct.own x=true->aj x=some g->A7 e=true->PE X e te->PE X (.Call (.Name x p) [e] [] pos) (λY H Q=>te Y H λv H1=>BZ W g v H1 Q)
 dY:∀{x y:Str} {g:C->Option C} {p q pos pos':Pos} {e:Expr} {te:TE},special ct x (.Call (.Name y q) [e] [] pos')=some g->A7 e=true->PE X e te->PE X (.Call (.Name x p) [.Call (.Name y q) [e] [] pos'] [] pos) (λY H Q=>te Y H λv H1=>BZ W g v H1 Q)
 FI:∀{x y:Str} {g:C->Option C} {p q pos:Pos} {e:Expr} {te:TE},ct.own x=true->x="isinstance"->SM ct (.Name y q)=some g->A7 e=true->PE X e te->PE X (.Call (.Name x p) [e,.Name y q] [] pos) (λY H Q=>te Y H λv H1=>BZ W g v H1 Q)
 bO:∀{ks:List (Option Expr)} {vs:List Expr} {pos:Pos},(ks.isEmpty && vs.isEmpty)=true->PE X (.Dict ks vs pos) (λY H Q=>Cc W H (.Bl true []) Q)
 eE:∀{m:Str} {g:C->C->Option C} {o e:Expr} {to te:TE} {ap pos:Pos},(m="get"/\g=Eu)\/(m="index"/\g=Dx)->Ja 1 ap pos=true->Uq o=true->A7 e=true->PE X o to->PE X e te->PE X (.Call (.Attribute o m ap) [e] [] pos) (λY H Q=>to Y H λx H1=>(∃c y r,Dj W H1 c x/\g c y=some r)/\te Y H1 λy H2=>AV W g x y H2 Q)
 dP:∀{m:Str} {o:Expr} {to:TE} {ap pos:Pos},m="upper"->Ja 0 ap pos=true->Uq o=true->PE X o to->PE X (.Call (.Attribute o m ap) [] [] pos) (λY H Q=>to Y H λv H1=>BZ W G7 v H1 Q)
 eV:∀{x:Str} {g:Int->Int->Option Int} {p pos:Pos} {a b:Expr} {ta tb:TE},ct.own x=true->(x="max"/\g=Pb)\/(x="min"/\g=P9)->A7 a=true->A7 b=true->PE X a ta->PE X b tb->PE X (.Call (.Name x p) [a,b] [] pos) (Vc (AV W (Aw g)) ta tb)
 walk:∀{l tg:Expr} {tl:TE},PE X l tl->PI X tg l (wI W AM tl)
 Xw:∀{x:Str} {p pos:Pos} {a tg:Expr} {ta:TE},ct.own x=true->x="range"->A7 a=true->PE X a ta->PI X tg (.Call (.Name x p) [a] [] pos) (wI W DP ta)
 dh:∀{x:Str} {p pos:Pos} {a tg:Expr} {ta:TE},Cb tg=true->ct.own x=true->x="enumerate"->A7 a=true->PE X a ta->PI X tg (.Call (.Name x p) [a] [] pos) (wI W IY ta)
 zip:∀{x:Str} {p pos:Pos} {a b tg:Expr} {ta tb:TE},Cb tg=true->ct.own x=true->x="zip"->A7 a=true->A7 b=true->PE X a ta->PE X b tb->PI X tg (.Call (.Name x p) [a,b] [] pos) (XY W Jf ta tb)
 KH:∀{x:Str} {p pos:Pos} {a b tg:Expr} {ta tb:TE},ct.own x=true->x="range"->A7 a=true->A7 b=true->PE X a ta->PE X b tb->PI X tg (.Call (.Name x p) [a,b] [] pos) (XY W KH ta tb)
def Pk(W:Wd)(cf:CF)(k:Nat)(e:Expr):Prop:=∀{ct:Ct} {X:Cx} {t:T},Bb ct X W cf k->kE ct e=some t->AR X W cf e t
section
variable{k:Nat}{ct:Ct}
theorem Qn{op:CmpOp}{c:C}(h:Nh op a b=some c):∃k,c=bC k:=by
 cases op with
 |Eq=>rintro⟨k,_,rfl⟩:AU h;exact#[_,rfl]
 |NotEq=>rintro⟨k,_,rfl⟩:AU h;exact#[_,rfl]
 |Lt=>rintro⟨_,_,h⟩:Ab h;rintro⟨k,_,rfl⟩:AU h;exact#[_,rfl]
 |Gt=>rintro⟨_,_,h⟩:Ab h;rintro⟨k,_,rfl⟩:AU h;exact#[_,rfl]
 |GtE=>rintro⟨_,_,h⟩:Ab h;rintro⟨k,_,rfl⟩:AU h;exact#[_,rfl]
 |LtE=>rcases or_some h with h|h<;>(rintro⟨_,_,h⟩:Ab h;rintro⟨k,_,rfl⟩:AU h;exact#[_,rfl])
 |Is=>rintro⟨_,_,h⟩:Ab h;rintro⟨_,rfl⟩:A3 h;exact#[_,rfl]
 |IsNot=>rintro⟨_,_,h⟩:Ab h;rintro⟨_,rfl⟩:A3 h;exact#[_,rfl]
 |In=>rintro⟨k,_,rfl⟩:AU h;exact#[_,rfl]
 |NotIn=>rintro⟨k,_,rfl⟩:AU h;exact#[_,rfl]
theorem E4{es:List Expr}(ih:∀e∈es,Pk W cf k e)(L:Bb ct X W cf k):∀{ts:List T},PK ct es=some ts->E6 X W cf es ts:=by
 induction es with
 |nil=>intro ts h;cases h;exact .nil
 |cons e es ihl=>
   intro ts h;rintro⟨t,h1,h2⟩:Ab h;rintro⟨us,h3,rfl⟩:AU h2;exact .cons (ih e mS L h1) (ihl (λe he=>ih e (mem_cons_of_mem _ he)) h3)
theorem FV(hK:W.K=X.K){e:Expr}{g:C->Option C}(h:PE X e (λY H Q=>tG W (rV W) (ev cf t) Y H λv H1=>BZ W g v H1 Q))(he:∀whole,isTrue e X.env whole=(do let v <-whole;standAt e.pos;holding [v] (truthy v)))(st:A7 e=true)(nc:BF e=false):AR X W cf e (.Ak g t):=
 AR.of hK (Ai h λY H Q z=>U0 z) rfl he st nc
theorem Yo{F G:Env->Res C}{g:C->C->Option C}{Y:L2.St}{H:Hp}{Q:VK}(h:tG W (rV W) (λU=>(F U).bind λx=>(G U).bind λy=>Res.of (g x y)) Y H Q):
 tG W (rV W) F Y H λx H1=>(∃c y r,Dj W H1 c x/\g c y=some r)/\tG W (rV W) G Y H1 λy H2=>AV W g x y H2 Q:=by
 rintro⟨U,B,R,hA⟩:h;refine#[U,B,R,hA.step Au λc v H1 _ e1 t1 r1 h1=>#[?_,U,B,R.ext e1 t1,h1.step Au λd u H2 _ e2 t2 r2 h2=>?_]]
 .cases e:G U with
  |stuck=>rw[e]at h1;exact h1.elim
  |ok d=>
    rw[e]at h1;rintro⟨r,er,_⟩:D2.of (o:=g c d) h1;exact#[c,d,r,r1.rd,er]
 .obtain⟨r,er,h2⟩:=h2.of;exact#[c,d,r,r1.rd.ext e2 (λ_ z=>z) λ_ z=>z,r2.rd,er,h2.new t2]
end
section
variable{k:Nat}{ct:Ct}{t:T}
variable{pos:Pos}
theorem P0{c:Const}{n:Nat}(L:Bb ct X W cf k)(h:kE ct (.Constant c n pos)=some t):AR X W cf (.Constant c n pos) t:=by
 cases c with
 |none=>cases h;exact DE L.K VR (λH _ _=>(Dn (W:=W) (H:=H)).mpr rfl) (λ_=>rfl) rfl rfl
 |bool b=>cases h;exact DE L.K YT (λH _ _=>(Cz (W:=W) (H:=H)).mpr rfl) (λ_=>rfl) rfl rfl
 |int i=>cases h;exact DE L.K VT (λH _ _=>(Aa (W:=W) (H:=H)).mpr rfl) (λ_=>rfl) rfl rfl
 |str x=>cases h;exact DE L.K VP (λH _ _=>(AJ (W:=W) (H:=H)).mpr rfl) (λ_=>rfl) rfl rfl
 |_=>cases h
theorem Se(L:Bb ct X W cf k)(h:kE ct (.Name x pos)=some t):AR X W cf (.Name x pos) t:=by
 replace h:ct.name x=some t:=h;unfold Ct.name at h;cases hs:ct.slot x with
 |some i=>
   rw[hs]at h;cases h;rintro⟨h1,h2,h3,h4⟩:L.slot hs;exact Ro L.K h1 h2 h3 h4
 |none=>
   rw[hs]at h;dsimp only at h;split at h
   case isFalse=>cases h
   rename_i hg;rintro⟨g1,g2,g3⟩:L.glob hg;rcases or_some h with h|h
   .obtain⟨c,hl,rfl⟩:=AU h;rintro⟨u,v,q1,q2,q3⟩:L.gl x c hl;exact DE L.K (Ma g1 q1 q2 g2) q3 (λ_=>rfl) rfl rfl
   .obtain⟨n,hl,rfl⟩:=AU h;rintro⟨a,q1,q2,_⟩:L.fns x n hl;exact DE L.K (Ma (v:=.ref a) g1 q1 rfl g2) (λH _ _=>(FW (W:=W) (H:=H)).mpr #[a,q2,rfl]) (λ_=>rfl) rfl rfl
theorem Uz{op:PySem.BoolOp}(L:Bb ct X W cf k):∀{es:List Expr} {t:T},(∀e∈es,Pk W cf k e)->kB ct op es=some t->PE X (.BoolOp op es pos) (tG W (rV W) (ev cf t))/\PW X (.BoolOp op es pos) (tG W rB (tv cf t))
 |[],_,_,h=>by cases h
 | [e],t,ih,h=>by
   rintro⟨x,h1,h2⟩:Ab h;cases h2;have hs:=ih e mS L h1;cases op with
   |And=>exact#[ON hs.v,RN hs.b]
   |Or=>exact#[ON hs.v,VH hs.b]
 | e::e2::es,t,ih,h=>by
   rintro⟨x,h1,h2⟩:Ab h;rintro⟨y,h3,rfl⟩:AU (show(kB ct op (e2::es)).map _=some t from h2);rintro⟨q1,q2⟩:Uz L (λe he=>ih e (mem_cons_of_mem _ he)) h3;have hs:=ih e mS L h1;cases op with
   |And=>exact snd_and hs q1 q2
   |Or=>exact Vn hs q1 q2
theorem RT(h:A7 b=true):MH b:=by
 intro o i;cases b<;>first|rfl|cases h
variable{H:Hp}
theorem Yl{F G:Env->Res C}{Y:L2.St}{Q:VK}(h:tG W (rV W) (λU=>(F U).bind λx=>(G U).bind λy=>Res.of (M1 x y)) Y H Q):ZX (λx lo hi H Q=>∃c r,Dj W H c x/\Jy lo hi c=some r/\Cc W H r Q) (tG W (rV W) F) (Jp (tG W (rV W) G)) Ij Y H Q:=by
 rintro⟨U,B,R,hA⟩:h;refine#[U,B,R,hA.step Au λc v H1 _ e1 t1 r1 h1=>#[U,B,R.ext e1 t1,h1.step Au λd u H2 _ e2 t2 r2 h2=>?_]];rintro⟨r,er,h3⟩:h2.of;clear h2;rintro⟨l,el,er⟩:Ab er;cases C.AW el;exact#[l,AZ r2,c,r,r1.rd.ext e2 (λ_ z=>z) λ_ z=>z,er,h3.new t2]
theorem Yk{F G:Env->Res C}{Y:L2.St}{Q:VK}(h:tG W (rV W) (λU=>(F U).bind λx=>(G U).bind λy=>Res.of (Ol x y)) Y H Q):ZX (λx lo hi H Q=>∃c r,Dj W H c x/\Jy lo hi c=some r/\Cc W H r Q) (tG W (rV W) F) Ij (Jp (tG W (rV W) G)) Y H Q:=by
 rintro⟨U,B,R,hA⟩:h;refine#[U,B,R,hA.step Au λc v H1 _ e1 t1 r1 h1=>#[U,B,R.ext e1 t1,h1.step Au λd u H2 _ e2 t2 r2 h2=>?_]];rintro⟨r,er,h3⟩:h2.of;clear h2;rintro⟨l,el,er⟩:Ab er;cases C.AW el;exact#[l,AZ r2,c,r,r1.rd.ext e2 (λ_ z=>z) λ_ z=>z,er,h3.new t2]
theorem Yj{F G J:Env->Res C}{Y:L2.St}{Q:VK}(h:tG W (rV W) (λU=>(F U).bind λx=>(G U).bind λy=>(J U).bind λz=>Res.of (Vq x y z)) Y H Q):ZX (λx lo hi H Q=>∃c r,Dj W H c x/\Jy lo hi c=some r/\Cc W H r Q) (tG W (rV W) F) (Jp (tG W (rV W) G)) (Jp (tG W (rV W) J)) Y H Q:=by
 rintro⟨U,B,R,hA⟩:h;refine#[U,B,R,hA.step Au λc v H1 _ e1 t1 r1 h1=>#[U,B,R.ext e1 t1,h1.step Au λd u H2 e0 e2 t2 r2 h2=>?_]]
 have key:∃l,d= .p (.int l):=by
  cases e:J U with
  |stuck=>rw[e]at h2;exact h2.elim
  |ok f=>
    rw[e]at h2;rintro⟨r,er,_⟩:D2.of (o:=Vq c d f) h2;rintro⟨l,el,_⟩:Ab er;exact#[l,C.AW el]
 rintro⟨l,rfl⟩:key;refine#[l,AZ r2,U,B,(R.ext e1 t1).ext e2 t2,h2.step Au λf w H3 _ e3 t3 r3 h3=>?_];rintro⟨r,er,h4⟩:h3.of;clear h3;rintro⟨l',el,er⟩:Ab er;cases el;rintro⟨m,em,er⟩:Ab er;cases C.AW em;exact#[m,AZ r3,c,r,r1.rd.ext (e2.trans e3) (λ_ z=>z) λ_ z=>z,er,h4.new t3]
end
section
variable{k:Nat}{ct:Ct}{t:T}
variable{ifs:List Expr}
theorem VM{xYY:Cx}{cs:List T}(h:E6 xYY W cf ifs cs)(hl:cs.length<=1):Xo xYY ifs (tG W rB (FP cf cs)):=by
 cases h with
 |nil=>exact λp0 s Y H Q I ⟨U,B,R,z⟩=>RW p0 s Y H Q I (z true H (Ext.refl _) R.tb rfl)
 |cons h r=>
   cases r with
   |nil=>exact RU h.b
   |cons _ _=>simp at hl
variable{elt:Expr}{sc:Scope}{pos:Pos}
theorem Oh(hK:W.K=X.K)(hc:X.calm=true){it tg:Expr}{N:List Str}{fr:List (Option Nat)}{ks:Sq}{g:Tg}{cs:List T}{wi:TI}(ok:De X.N X.env.scope N sc fr)(hw:Src W ks (ev cf x) wi)(hi:PI X tg it wi)(st:A7 it=true)(hl:cs.length<=1)(hg:∀i∈g.slots,i < fr.length)
 (hb:∀C s H fp,PG (AQ X N sc C s H fp) tg (gT W g)/\AR (AQ X N sc C s H fp) W cf elt e/\E6 (AQ X N sc C s H fp) W cf ifs cs):
 AR X W cf (.ListComp elt [#[tg,it,ifs,0]] sc pos) (.comp g ks x cs e fr):=by
 have hv:∀Y H Q,tG W (rV W) (ev cf (.comp g ks x cs e fr)) Y H Q->Ik wi (gT W g) (tG W rB (FP cf cs)) (Xv (tG W (rV W) (ev cf e))) fr Y H Q:=λY H Q z=>V8 hw hg z
 have hb':∀C s H fp,PG (AQ X N sc C s H fp) tg (gT W g)/\PE (AQ X N sc C s H fp) elt (Xv (tG W (rV W) (ev cf e)))/\Xo (AQ X N sc C s H fp) ifs (tG W rB (FP cf cs)):=λC s H fp=>#[(hb C s H fp).1,OP (hb C s H fp).2.1.v,VM (hb C s H fp).2.2 hl]
 have v:PE X (.ListComp elt [#[tg,it,ifs,0]] sc pos) (tG W (rV W) (ev cf (.comp g ks x cs e fr))):=Ai (OR N fr hc ok hi hb' (DI st _)) hv;refine#[v,Gn (Ul hK v λ_=>rfl) λY H Q z=>TY z,rfl,λi y py spos hN hy hx hf=>?_];have hs:swapsWith (.ListComp elt [#[tg,it,ifs,0]] sc pos) (some (.Name y py)) spos.line X.env=pure (X.env.blockKind == .function && X.env.kindOf y == some .local && py.line == pos.line && !(sc.names.any λ(n,k)=>n == y && (k == .local || k == .cell))):=rfl;cases hbo:(X.env.blockKind == .function && X.env.kindOf y == some .local && py.line == pos.line && !(sc.names.any λ(n,k)=>n == y && (k == .local || k == .cell)))with
 |false=>
   rw[hbo]at hs;exact KI hN hy hx v hs hf
 |true=>
   rw[hbo]at hs
   have hl':X.env.scope.names.lookup y=some .local:=by
    simp only[bA]at hbo;exact beq_iff_eq.mp hbo.1.1.2
   exact λp0 s Y H D I z=>OF N fr hN hy hl' hc ok hi hb' hs (DI st _) p0 s Y H D I (hv Y H _ z)
variable{α:Type}
theorem C4{c:Prop}[Decidable c]{a:Option α}{b:α}(h:(if c then a else none)=some b):c/\a=some b:=by
 split at h
 .exact#[‹_›,h]
 .cases h
theorem C1{x:Str}(h:GX e=some x):∃p,e= .Name x p:=by cases e<;>cases h;exact#[_,rfl]
theorem E1{l:List α}{a:α}(h:one l=some a):l=[a]:=by
 match l,h with
 |[b],h=>cases h;rfl
theorem G9{l:List α}{a:α×α}(h:two l=some a):l=[a.1,a.2]:=by
 match l,h with
 |[b,c],h=>cases h;rfl
theorem Mv{q:Expr×List Expr×List Keyword×Pos}(h:Tj e=some q):e= .Call q.1 q.2.1 q.2.2.1 q.2.2.2:=by cases e<;>cases h;rfl
theorem CU{a:Expr}(h:ct.DW x e=some a):∃p pos,e= .Call (.Name x p) [a] [] pos/\ct.own x=true:=by
 rintro⟨q,h1,h3⟩:Ab h;clear h;rintro⟨y,h2,h4⟩:Ab h3;clear h3;split at h4
 case isFalse=>cases h4
 rename_i hc;rintro⟨hy,hc2,hc3⟩:hc;rw[hy]at hc2 h2;rintro⟨p,hp⟩:C1 h2;rw[Mv h1,hp,E1 h4,isEmpty_iff.mp hc3];exact#[p,_,rfl,hc2]
theorem Kh{a:Expr×Expr}(h:ct.call2 x e=some a):∃p pos,e= .Call (.Name x p) [a.1,a.2] [] pos/\ct.own x=true:=by
 rintro⟨q,h1,h3⟩:Ab h;clear h;rintro⟨y,h2,h4⟩:Ab h3;clear h3;split at h4
 case isFalse=>cases h4
 rename_i hc;rintro⟨hy,hc2,hc3⟩:hc;rw[hy]at hc2 h2;rintro⟨p,hp⟩:C1 h2;rw[Mv h1,hp,G9 h4,isEmpty_iff.mp hc3];exact#[p,_,rfl,hc2]
theorem PJ{tg it:Expr}{q:Sq×T}(O:TN ct X W)(L:Bb ct X W cf k)(h:XA ct tg it (kE ct it) (Ni ct it) (JW ct it)=some q)(h0:Pk W cf k it)(h1:∀as p pos x,it= .Call (.Name x p) as [] pos->∀a∈as,Pk W cf k a):A7 it=true/\∃wi,PI X tg it wi/\Src W q.1 (ev cf q.2) wi:=by
 have two:∀{x:Str} {p pos:Pos} {a b:Expr} {ta tb:T},it= .Call (.Name x p) [a,b] [] pos->Ni ct it=some ta->JW ct it=some tb->AR X W cf a ta/\AR X W cf b tb:=λ{x p pos a b ta tb} e ha hb=>by
  have hh:=h1 _ p pos x e;subst e;exact#[hh a mS L ha,hh b (mem_cons_of_mem _ mS) L hb]
 unfold XA at h;split at h
 .rename_i a hr;rintro⟨ta,ha,rfl⟩:AU h;rintro⟨p,pos,rfl,ho⟩:CU hr;have hs:=h1 _ p pos _ rfl a mS L ha;exact#[rfl,_,O.Xw ho rfl hs.st hs.v,Ip]
 .rename_i a _ hr;rintro⟨hb,h⟩:C4 h;rintro⟨ta,ha,rfl⟩:AU h;rintro⟨p,pos,rfl,ho⟩:CU hr;have hs:=h1 _ p pos _ rfl a mS L ha;exact#[rfl,_,O.dh hb ho rfl hs.st hs.v,Ip]
 .rename_i a _ _ hr;rintro⟨hb,h⟩:C4 h;rintro⟨ta,ha,h⟩:Ab h;rintro⟨tb,hb',rfl⟩:AU h;rintro⟨p,pos,e,ho⟩:Kh hr;rintro⟨s1,s2⟩:two e ha hb';subst e;exact#[rfl,_,O.zip hb ho rfl s1.st s2.st s1.v s2.v,LZ]
 .rename_i a _ _ _ hr;rintro⟨ta,ha,h⟩:Ab h;rintro⟨tb,hb',rfl⟩:AU h;rintro⟨p,pos,e,ho⟩:Kh hr;rintro⟨s1,s2⟩:two e ha hb';subst e;exact#[rfl,_,O.KH ho rfl s1.st s2.st s1.v s2.v,LZ]
 .obtain⟨t,ht,rfl⟩:=AU h;have hs:=h0 L ht;exact#[hs.st,_,O.walk hs.v,Ip]
theorem X1:(ct.block sc).2.length=(ct.block sc).1.N.length:=by
 unfold Ct.block;simp
theorem Sf{gs:List Comprehension}(opx:∀{ct X},Bb ct X W cf k->TN ct X W)(he:Pk W cf k elt)(hg:∀tg it ifs ia,(#[tg,it,ifs,ia]:Comprehension)∈gs->Pk W cf k it/\(∀as p pos x,it= .Call (.Name x p) as [] pos->∀a∈as,Pk W cf k a)/\∀e∈ifs,Pk W cf k e)(L:Bb ct X W cf k)(h:kE ct (.ListComp elt gs sc pos)=some t):AR X W cf (.ListComp elt gs sc pos) t:=by
 replace h:kG ct sc gs (kE (ct.block sc).1 elt)=some t:=h;cases gs with
 |nil=>cases h
 |cons c gs=>
   rintro⟨tg,it,ifs,ia⟩:c;rintro⟨p1,p2,p3⟩:hg tg it ifs ia mS;rintro⟨g,h1,h⟩:Ab h;rintro⟨q,h2,h⟩:Ab h;rintro⟨cs,h3,h⟩:Ab h;rintro⟨e,h4,h⟩:Ab h;rintro⟨hc,rfl⟩:A3 h;simp only[bA]at hc;rintro⟨⟨⟨⟨c0,c1⟩,c2⟩,c3⟩,c4⟩:hc;cases of_decide_eq_true c0;cases isEmpty_iff.mp c1;rintro⟨st,wi,hi,hw⟩:PJ (opx L) L h2 p1 p2;refine Oh L.K L.calm (L.dq c3) hw hi st (of_decide_eq_true c2) (λi hi=>?_) λC s H fp=>?_
   .have:=(OL (L.block c3 (of_decide_eq_true c4) 0 X.s₀ X.H₀ []) h1).2 i hi;rw[X1];exact this
   .have L2:=L.block c3 (of_decide_eq_true c4) C s H fp;exact#[(OL L2 h1).1,he L2 h4,E4 p3 L2 h3]
end
section
variable{k:Nat}{ct:Ct}{t:T}
theorem Mx(L:Bb ct X W cf k):∀{xs:List Str} {EK:List Nat},Tq ct xs=some EK->Paired (λx i=>X.N[i]? =some x) xs EK
 |[],_,h=>by cases h;exact .nil
 | x::xs,_,h=>by
   rintro⟨i,h1,h⟩:Ab h;rintro⟨is,h2,rfl⟩:AU h;exact .cons (L.slot h1).1 (Mx L h2)
theorem MF{l:List (Str×NameKind)}{f:Str×NameKind->Bool}{k:NameKind}(h:(l.all λy=>y.2 != k || f y)=true):∀z∈l,z.2=k->f z=true:=λz hz e=>by
 have:=all_eq_true.mp h z hz;rw[e]at this;simpa using this
theorem Pw(L:Bb ct X W cf k){as:Arguments}{sc:Scope}{EK:List Nat}(h:Px ct.sc as sc=true)(hc:Tq ct ((sc.names.filter λq=>q.2 == .free).map (·.1))=some EK):∃y fr,UP X sc as y fr EK:=by
 unfold Px at h;simp only[bA]at h;rintro⟨⟨⟨⟨⟨⟨⟨⟨⟨⟨⟨⟨⟨⟨⟨h1,h2⟩,h3⟩,h4⟩,h5⟩,h6⟩,h7⟩,h8⟩,h9⟩,h10⟩,h11⟩,h12⟩,h13⟩,h14⟩,h15⟩,h16⟩:h;rintro⟨a1,a2,a3,a4,a5,a6,a7⟩:as;have h10:=of_decide_eq_true h10
 obtain⟨ann,ps,rfl⟩:∃ann ps,a2=[⟨JI,ann,ps⟩]:=by
  match a2,h10 with
  |[⟨a,ann,ps⟩],h=>exact#[ann,ps,by rw[map_cons,map_nil]at h;cases h;rfl]
 simp only[isEmpty_iff,Option.isNone_iff_eq_none]at h11 h12 h13 h14 h15 h16
 subst_vars
 refine#[JI,(sc.names.filter λq=>q.2 == .free).map (·.1),?_];have hn:Nf #[[],[#[JI,ann,ps]],none,[],[],none,[]] sc=JI::(sc.names.filter λq=>q.2 == .free).map (·.1):=rfl
 have all:∀x∈(sc.names.filter λq=>q.2 == .free).map (·.1),∃z∈sc.names,z.2= .free/\z.1=x:=λx hx=>by
  rintro⟨z,hz,rfl⟩:mem_map.mp hx;rintro⟨hz1,hz2⟩:mem_filter.mp hz;exact#[z,hz1,beq_iff_eq.mp hz2,rfl]
 refine#[beq_iff_eq.mp h1,by simpa using h2,by simpa using h3,λz hz=>by simpa using all_eq_true.mp h4 z hz,λz hz e=>?_,?_,λz hz e=>#[mem_map.mpr #[z,mem_filter.mpr #[hz,beq_iff_eq.mpr e],rfl],?_],λx hx=>?_,of_decide_eq_true h7,hn,rfl,λ_ _ _ _ _ _=>by kernel_rfl,Mx L hc]
 .have:=MF h5 z hz e;simpa using this
 .simpa using h8
 .have:=all_eq_true.mp h6 z hz;rw[e]at this;simp at this;rcases this with q|q
  .exact .inl (L.sc.ah _ q)
  .exact(L.sc.X0 _ q).symm
 .obtain⟨z,hz,e,rfl⟩:=all x hx;have:=MF h9 z hz e;simpa using this
end
section
variable{k:Nat}{ct:Ct}{t:T}
theorem SH{q:Arguments×Expr×Scope×Pos}(h:WC e=some q):e= .Lambda q.1 q.2.1 q.2.2.1 q.2.2.2:=by cases e<;>cases h;rfl
theorem KC{g:C->Option C}(h:special ct x e=some g):∃y p a pos,e= .Call (.Name y p) [a] [] pos:=by
 have key:∀{y:Str},(ct.DW y e).isSome=true->∃y p a pos,e= .Call (.Name y p) [a] [] pos:=λ{y} z=>by
  rintro⟨a,ha⟩:Option.isSome_iff_exists.mp z;rintro⟨p,pos,e,_⟩:CU ha;exact#[_,p,a,pos,e]
 unfold special at h;split at h
 .rename_i hc;simp only[bA]at hc;exact key hc.2
 .split at h
  .rename_i hc;simp only[bA]at hc;exact key hc.2
  .split at h
   .rename_i hc;simp only[bA]at hc;exact key hc.2
   .cases h
theorem Sg{f:Expr}{args:List Expr}{kws:List Keyword}{pos:Pos}(opx:∀{ct X},Bb ct X W cf k->TN ct X W)(ha:∀e∈args,Pk W cf k e)(hin:∀y p a pos,.Call (.Name y p) [a] [] pos∈args->Pk W cf k a)(ho:∀o m p,f= .Attribute o m p->Pk W cf k o)(L:Bb ct X W cf k)(h:kE ct (.Call f args kws pos)=some t):AR X W cf (.Call f args kws pos) t:=by
 have O:=opx L;replace h:(if kws.isEmpty then kC ct f args pos (PK ct args) (XB ct args) (a8 ct args) (bG ct args)else none)=some t:=h;split at h
 case isFalse=>cases h
 rename_i hkw;cases isEmpty_iff.mp hkw;cases f with
 |Name x p=>
   replace h:(if ct.own x && decide (x="isinstance")then(two args).bind λq=>(SM ct q.2).bind λty=>(XB ct args).map λt=>.Ak ty t
    else match(two args).bind λq=>WC q.2 with
    |some l=>(XB ct args).bind λa=>WL ct x a l.1 l.2.2.1 l.2.2.2 (a8 ct args)
    | none=>match(one args).bind (special ct x)with
      |some f=>(bG ct args).map λt=>.Ak f t
      |none=>(PK ct args).bind (bF ct x))=some t:=h
   split at h
   .rename_i hc;rw[bA]at hc;rintro⟨q,h1,h⟩:Ab h;rintro⟨g,h2,h⟩:Ab h;rintro⟨te,h3,rfl⟩:AU h;cases G9 h1;rintro⟨y,hy,_⟩:Ab h2;rintro⟨p',hp⟩:C1 hy;rintro⟨q1,q2⟩:q;dsimp only at hp h2 ha h3 ⊢;subst hp;have hs:=ha q1 mS L h3;exact FV L.K (O.FI hc.1 (of_decide_eq_true hc.2) h2 hs.st hs.v) (λ_=>rfl) rfl rfl
   .split at h
    .rename_i l hl;rintro⟨q,h1,h2⟩:Ab hl;rintro⟨a,h3,h⟩:Ab h;cases G9 h1;rintro⟨q1,q2⟩:q;dsimp only at h2 ha h3 h ⊢;cases SH h2;have hs:=ha q1 mS L h3;unfold WL at h;split at h
     case isFalse=>cases h
     rename_i hc;simp only[bA]at hc;rintro⟨f',h4,h⟩:Ab h;rintro⟨ln,h5,h⟩:Ab h;rintro⟨EK,h6,h⟩:Ab h;rintro⟨tb,h7,h⟩:Ab h;rintro⟨hlt,rfl⟩:A3 h;rintro⟨y,fr,S⟩:Pw L hc.1.1 h6;rintro⟨g1,g2,g3⟩:L.glob hc.2;rintro⟨a0,r1,r2,_⟩:L.fns x f' h4
     have h7':kE (ct.lam l.1 l.2.2.1) l.2.1=some tb:=by
      replace h7:(bE ct q1 <|> (kE (ct.lam l.1 l.2.2.1) l.2.1 <|> none))=some tb:=h7;cases hq:bE ct q1 with
      |none=>rw[hq]at h7;cases e:kE (ct.lam l.1 l.2.2.1) l.2.1<;>rw[e]at h7<;>first|exact h7|cases h7
      |some _=>
        exfalso;cases q1 with
        |Lambda _ _ _ _=>cases h3
        |_=>cases hq
     exact MT L.K (L.room.mono (Nat.le_succ _)) g1 r1 g2 r2 hs (L.lam _ _ h5) S (L.fn hc.1.2) h7' (by rw[<-S.n];exact hlt)
    .split at h
     .rename_i _ g hg;rintro⟨te,h3,rfl⟩:AU h;rintro⟨e0,h1,h2⟩:Ab hg;cases E1 h1;rintro⟨y,p',a,pos',rfl⟩:KC h2;replace h3:kE ct a=some te:=h3;have hs:=hin y p' a pos' mS L h3;exact FV L.K (O.dY h2 hs.st hs.v) (λ_=>rfl) rfl rfl
     .obtain ⟨ts,h1,h⟩:=Ab h;have hs:=E4 ha L h1;unfold bF at h;split at h
      .rename_i hown
       have two2:∀{g:Int->Int->Option Int},((x="max"/\g=Pb)\/(x="min"/\g=P9))->((two ts).map λq=>T.A1 (Aw g) q.1 q.2)=some t->AR X W cf (.Call (.Name x p) args [] pos) t:=λ{g} hg h=>by
        rintro⟨q,h2,rfl⟩:AU h;cases G9 h2;cases hs with
        |cons he hr=>
          cases hr with
          |cons he' hr=>cases hr;exact AR.of L.K (Ai (O.eV hown hg he.st he'.st he.v he'.v) λY H Q z=>Jo z) rfl
       split at h
       .rename_i hx;exact two2 (.inl #[hx,rfl]) h
       .split at h
        .rename_i hx;exact two2 (.inr #[hx,rfl]) h
        .obtain⟨t1,h2,h⟩:=Ab h;rintro⟨g,h3,rfl⟩:AU h;cases E1 h2;cases hs with
         |cons he hr=>
           cases hr;exact FV L.K (O.eW hown h3 he.st he.v) (λ_=>rfl) rfl rfl
      .split at h
       .rename_i i hi;cases h;exact Rz L.K L.fv (L.room.mono (Nat.le_succ _)) (L.pv hi) hs
       .split at h
        .rename_i hg;rintro⟨g1,g2,g3⟩:L.glob hg;split at h
         .rename_i f' h4;cases h;rintro⟨a0,r1,r2,r3⟩:L.fns x f' h4;exact Oi L.K r3 (L.room.mono (Nat.le_succ _)) g1 r1 g2 hs
         .obtain⟨f',h5,h6⟩:=Ab h;rintro⟨t1,h7,rfl⟩:AU h6;cases E1 h7;rintro⟨r1,a0,r2,r3⟩:L.cls x f' h5;cases hs with
          |cons he hr=>cases hr;exact Og L.K r2 r3 L.room g1 r1 g2 he
        .cases h
 |Attribute o m ap=>
   replace h:(if Ja args.length ap pos && Uq o then(kE ct o).bind λt=>(PK ct args).bind (bD ct m (GX o).isSome t)else none)=some t:=h;split at h
   case isFalse=>cases h
   rename_i hm;rw[bA]at hm;rintro⟨hm,hn⟩:hm;rintro⟨to,h1,h⟩:Ab h;rintro⟨ts,h2,h⟩:Ab h;have so:=ho o m ap rfl L h1;have hs:=E4 ha L h2
   have one1:∀{g:C->C->Option C},((m="get"/\g=Eu)\/(m="index"/\g=Dx))->((one ts).map λt=>T.A1 g to t)=some t->AR X W cf (.Call (.Attribute o m ap) args [] pos) t:=λ{g} hg h=>by
    rintro⟨t1,h3,rfl⟩:AU h;cases E1 h3;cases hs with
    |cons he hr=>
      cases hr;exact AR.of L.K (Ai (O.eE hg hm hn he.st so.v he.v) λY H Q z=>Yo z) rfl
   unfold bD at h;split at h
   .rename_i f' hf;split at h
    case isFalse=>cases h
    rename_i hnm;cases h;rintro⟨y,hy⟩:Option.isSome_iff_exists.mp hnm;rintro⟨p,rfl⟩:C1 hy;rintro⟨q1,a0,q2,q3⟩:L.NN m f' hf;exact Of L.K L.Uv q2 q1 q3 (L.room.mono (Nat.le_succ _)) hm so hs
   split at h
   .rename_i hm';exact one1 (.inl #[hm',rfl]) h
   .split at h
    .rename_i hm';exact one1 (.inr #[hm',rfl]) h
    .split at h
     .rename_i hc;cases h;cases isEmpty_iff.mp hc.2;cases hs;exact FV L.K (O.dP hc.1 hm hn so.v) (λ_=>rfl) rfl rfl
     .cases h
 |_=>cases h
end
section
variable{k:Nat}
theorem KZ{α:Type}[SizeOf α]{a:α}{l:List α}(h:a∈l):sizeOf a < sizeOf l:=List.sizeOf_lt_of_mem h
theorem X9{ct:Ct}{X:Cx}(L:Bb ct X W cf k)(ox:TN ct X W){pos:Pos}(ha:AR X W cf a x){ops:List CmpOp}{es:List Expr}{ys:List T}{t:T}(hs:E6 X W cf es ys)(h:Ti x ops ys=some t):AR X W cf (.Compare a ops es pos) t:=by
 unfold Ti at h;split at h
 .cases h;cases hs with
  |cons h1 hr=>cases hr;exact Rw (ox.cmp _) (λ_ _ _ z=>Qn z) ha h1
 .cases h;cases hs with
  |cons h1 hr=>
    cases hr with
    |cons h2 hr=>
      cases hr;exact Rx (ox.cmp _) (ox.cmp _) (λ_ _ _ z=>Qn z) ha h1 h2 (F9 h2.st _)
 .cases h
theorem EY(opx:∀{ct X},Bb ct X W cf k->TN ct X W):∀(n:Nat) (e:Expr),sizeOf e<=n->Pk W cf k e:=by
 intro n
 induction n with
 |zero=>intro e h;cases e<;>simp at h
 |succ n ih =>
   intro e hn ct X t L h;have ihl:∀(es:List Expr),sizeOf es<=n->∀e∈es,Pk W cf k e:=λes hs e he=>ih e (by have:=KZ he;lia)
   cases e with
   |Constant c m pos=>exact P0 L h
   |Name x pos=>exact Se L h
   |Tuple es x1 pos=>
     simp at hn;rintro⟨ts,h1,rfl⟩:AU h;exact Rq L.K (E4 (ihl es (by lia)) L h1)
   |List es pos=>
     simp at hn;rintro⟨ts,h1,rfl⟩:AU h;exact Rt L.K (E4 (ihl es (by lia)) L h1)
   |Dict ks vs pos=>
     replace h:(if ks.isEmpty && vs.isEmpty then some (.Ak (λ_=>some (.Bl true [])) (.cst (.p .AG)))else none)=some t:=h;rintro⟨hk,rfl⟩:A3 h;exact AR.of L.K (Ai ((opx L).bO hk) λY H Q ⟨U,B,R,hA⟩=>D2.new (c:=.Bl true []) hA R.tb) rfl
   |BinOp a op b pos=>
     simp at hn;rintro⟨g,h1,h⟩:Ab h;rintro⟨x,h2,h⟩:Ab h;rintro⟨y,h3,rfl⟩:AU h;exact Ry L.K ((opx L).bin op g h1) (ih a (by lia) L h2) (ih b (by lia) L h3)
   |UnaryOp op a pos=>
     simp at hn;rintro⟨x,h1,h⟩:Ab h;have hs:=ih a (by lia) L h1;cases op with
     |Not=>cases h;exact Rr hs
     |USub=>cases h;exact Vm L.K (opx L).neg (λ_=>rfl) hs
     |_=>cases h
   |BoolOp op es pos=>
     simp at hn;rintro⟨q1,q2⟩:Uz (pos:=pos) L (ihl es (by lia)) (show kB ct op es=some t from h);exact AR.Z0 q1 q2.pt
   |IfExp c a b pos=>
     simp at hn;rintro⟨z,h0,h⟩:Ab h;rintro⟨x,h1,h⟩:Ab h;rintro⟨y,h2,rfl⟩:AU h;exact Ru L.K (ih c (by lia) L h0) (ih a (by lia) L h1) (ih b (by lia) L h2)
   |Compare a ops es pos=>
     simp at hn;rintro⟨x,h0,h⟩:Ab h;rintro⟨ys,h1,h⟩:Ab h;have ha:=ih a (by lia) L h0;have hs:=E4 (ihl es (by lia)) L h1;replace h:Ti x ops ys=some t:=h;clear h1 h0;exact X9 L (opx L) ha hs h
   |Attribute o m pos=>
     simp at hn;replace h:(if(GX o).isSome then(kE ct o).bind λx=>(ct.fld.idxOf? m).map λj=>.Ak (DA j) x else none)=some t:=h;split at h
     case isFalse=>cases h
     rename_i hnm;rintro⟨y,hy⟩:Option.isSome_iff_exists.mp hnm;rintro⟨p,rfl⟩:C1 hy;rintro⟨x,h1,h⟩:Ab h;rintro⟨j,h2,rfl⟩:AU h;rintro⟨f1,f2,f3,f4⟩:L.fld;have hj:=Cp h2;exact Rv L.K (f1▸f2) (f1▸hj) L.Uv (f4 m (mem_of_getElem? hj)) (ih _ (by lia) L h1)
   |Subscript v i pos=>
     simp at hn;rintro⟨x,h0,h⟩:Ab h;have hv:=ih v (by lia) L h0;replace h:(if IJ i then(kI ct i).bind λq=>cV x q.1 q.2 else(kE ct i).map λy=>.A1 Ae x y)=some t:=h;split at h
     .rename_i hsl;rintro⟨q,h1,hq⟩:Ab h;clear h;cases i with
      |Slice lo hi st sp=>
        simp at hn;replace h1:(if st.isNone then(kO ct lo).bind λl=>(kO ct hi).map λh=>(l,h)else none)=some q:=h1;split at h1
        case isFalse=>cases h1
        rename_i hst;cases Option.isNone_iff_eq_none.mp hst;rintro⟨l,h2,h1⟩:Ab h1;rintro⟨u,h3,rfl⟩:AU h1
        have po:∀{o:Option Expr} {w:Option T},sizeOf o<=n->kO ct o=some w->(w=none/\o=none)\/∃e t,o=some e/\w=some t/\AR X W cf e t:=λ{o w} hs hk=>by
         cases o with
         |none=>cases hk;exact .inl #[rfl,rfl]
         |some e=>rintro⟨t,ht,rfl⟩:AU hk;simp at hs;exact .inr #[e,t,rfl,rfl,ih e (by lia) L ht]
        have sl:=(opx L).sl;rcases po (by lia) h2 with⟨rfl,rfl⟩|⟨e1,t1,rfl,rfl,s1⟩
        .rcases po (by lia) h3 with⟨rfl,rfl⟩|⟨e2,t2,rfl,rfl,s2⟩
         .cases hq
         .cases hq;exact AR.of L.K (Ai (Gp sl hv.v M8 (FX s2.v)) λY H Q z=>Yk z) rfl
        .rcases po (by lia) h3 with⟨rfl,rfl⟩|⟨e2,t2,rfl,rfl,s2⟩
         .cases hq;exact AR.of L.K (Ai (Gp sl hv.v (FX s1.v) M8) λY H Q z=>Yl z) rfl
         .cases hq;exact AR.of L.K (Ai (Gp sl hv.v (FX s1.v) (FX s2.v)) λY H Q z=>Yj z) rfl
      |_=>cases hsl
     .obtain⟨y,h1,rfl⟩:=AU h;have hi:=ih i (by lia) L h1;exact AR.of L.K (Ai (YS (opx L).ix hv.v hi.v (RT hi.st)) λY H Q z=>Jo z) rfl
   |ListComp elt gs sc pos=>
     simp at hn;refine Sf opx (ih elt (by lia)) (λtg it ifs ia hm=>?_) L h;have:=KZ hm;simp at this;refine#[ih it (by lia),λas p pos x e a ha=>?_,ihl ifs (by lia)];subst e;simp at this;exact ihl as (by lia) a ha
   |Call f args kws pos=>
     simp at hn;refine Sg opx (ihl args (by lia)) (λy p a pos hm=>?_) (λo m p e=>?_) L h
     .have:=KZ hm;simp at this;exact λ{_ _ _}=>ih a (by lia)
     .subst e;simp at hn;exact ih o (by lia)
   |_=>cases h
end
def rS(W:Wd)(cf:CF)(s:S):TS:=tS W (ZI s) (Nv.exec cf As s)
def cU(W:Wd)(cf:CF)(ss:List S):TS:=tS W (CD ss) (Nv.execs cf As ss)
def dw(W:Wd)(cf:CF)(k:Nat)(s:Stmt):Prop:=∀{ct:Ct} {X:Cx} {t:S},Bb ct X W cf k->kS ct s=some t->PS X s (rS W cf t)
def ZN(W:Wd)(cf:CF)(k:Nat)(ss:List Stmt):Prop:=∀{ct:Ct} {X:Cx} {ts:List S},Bb ct X W cf k->SI ct ss=some ts->NJ X ss (cU W cf ts)
structure dr(ct:Ct)(X:Cx)(W:Wd)(cf:CF)(k:Nat):Prop where
 tup:∀{es:List Expr} {n:Nat} {p pos:Pos} {e:Expr} {t:T} {is:List Nat},Cb e=false->AR X W cf e t->JV ct es=some is->PS X (.Assign [.Tuple es n p] e pos) (rS W cf (.asg (.tup is) t))
 aU:∀{x:Str} {i j:Nat} {e:Expr} {p pos:Pos},ct.Cy x=some i->PD ct e=some j->PS X (.Assign [.Name x p] e pos) (rS W cf (.pop (some i) j))
 mt:∀{e:Expr} {pos:Pos} {t:S},BF e=false->PH ct e=some t->PS X (.Expr e pos) (rS W cf t)
 put:∀{y:Str} {i j:Nat} {e ie:Expr} {p q pos:Pos} {t u:T},ct.slot y=some j->IJ ie=false->AR X W cf e t->AR X W cf ie u->PS X (.Assign [.Subscript (.Name y p) ie q] e pos) (rS W cf (.Ce j false (Ds λc x k=>Dp c k x) [t,u]))
 aT:∀{y f:Str} {j n:Nat} {e ie:Expr} {p q r pos:Pos} {t u:T},ct.slot y=some j->ct.fld.idxOf? f=some n->IJ ie=false->AR X W cf e t->AR X W cf ie u->PS X (.Assign [.Subscript (.Attribute (.Name y p) f r) ie q] e pos) (rS W cf (.Ce j false (Ds (Bz n)) [t,u]))
 aF:∀{y f:Str} {j n:Nat} {e:Expr} {p q pos:Pos} {t:T},ct.slot y=some j->ct.fld.idxOf? f=some n->AR X W cf e t->PS X (.Assign [.Attribute (.Name y p) f q] e pos) (rS W cf (.Ce j false (EJ (FF n)) [t]))
 cm:∀{e:Expr} {pos:Pos} {t:S},BF e=false->Zm ct e=some t->PS X (.Expr e pos) (rS W cf t)
section
variable{k:Nat}{ct:Ct}
theorem TC{q:Expr×Str×Pos}(h:QB e=some q):e= .Attribute q.1 q.2.1 q.2.2:=by cases e<;>cases h;rfl
theorem Ei{e:Stmt}{t t':TS}(h:PS X e t)(k:∀D Y H,Y.length=X.N.length->t' D Y H->t D Y H):PS X e t':=λp0 s Y H D I z=>h p0 s Y H D I (k D Y H I.len z)
theorem M6{ss:List Stmt}(ih:∀s∈ss,dw W cf k s):ZN W cf k ss:=by
 induction ss with
 |nil=>
   intro ct X ts L h;cases h;exact M7 RP λD Y H z=>YB z
 |cons s ss ihl=>
   intro ct X ts L h;rintro⟨us,h3,rfl⟩:AU h
   have hs:PS X s (rS W cf ((kS ct s).getD .no)):=by
    cases e:kS ct s with
    |some t=>exact ih s mS L e
    |none=>exact λp0 s Y H D I ⟨_,_,_,_,_,z⟩=>z.elim
   exact M7 (OB hs (ihl (λe he=>ih e (mem_cons_of_mem _ he)) L h3)) λD Y H z=>VA z
theorem Gw{i:Nat}(h:ct.name x=some (.var i)):ct.slot x=some i:=by
 unfold Ct.name at h;split at h
 .rename_i e;cases h;exact e
 .obtain⟨_,z⟩:=C4 h;rcases or_some z with z|z<;>(rintro⟨c,_,z⟩:AU z;cases z)
theorem Vu{D:Ends}{Y:L2.St}{H:Hp}(h:tS W [] (λU=>.ret (.p .AG)) D Y H):U6 D Y H:=by
 rintro⟨Hin,A0,Bo,U,S,hA⟩:h;exact hA .AG H #[rfl,S.tb,S.EZ,S.FN,S.kp]
theorem SJ(O:TN ct X W)(L:Bb ct X W cf k){tg:Expr}{ks:Sq}{i:Nat}(h:XA ct tg e (kE ct e) (Ni ct e) (JW ct e)=some (ks,.var i))(hn:(GX (ct.src e)).isSome=true):A7 e=true/\(∀o kvs,ks (.Bl o kvs)=none)/\(∀o fs,ks (.obj o fs)=none)/\PI X tg e (wI W ks (EO i)):=by
 rintro⟨x,hx⟩:Option.isSome_iff_exists.mp hn;unfold Ct.src at hx;unfold XA at h;split at h
 .rename_i a hr;rintro⟨p,pos,rfl,ho⟩:CU hr;rw[hr]at hx;rintro⟨q,rfl⟩:C1 hx;rintro⟨t,ht,h⟩:AU h;cases h;exact#[rfl,λ_ _=>rfl,λ_ _=>rfl,O.Xw ho rfl rfl (L.pv (Gw ht))]
 .rename_i a hr0 hr;split at h
  case isFalse=>cases h
  rename_i hb;rintro⟨p,pos,rfl,ho⟩:CU hr;rw[hr0,hr]at hx;rintro⟨q,rfl⟩:C1 hx;rintro⟨t,ht,h⟩:AU h;cases h;exact#[rfl,λ_ _=>rfl,λ_ _=>rfl,O.dh hb ho rfl rfl (L.pv (Gw ht))]
 .obtain⟨_,h⟩:=C4 h;rintro⟨ta,_,h⟩:Ab h;rintro⟨tb,_,h⟩:AU h;cases h
 .obtain⟨ta,_,h⟩:=Ab h;rintro⟨tb,_,h⟩:AU h;cases h
 .rename_i hr0 hr _ _;rw[hr0,hr]at hx;rintro⟨q,rfl⟩:C1 hx;rintro⟨t,ht,h⟩:AU h;cases h;exact#[rfl,λ_ _=>rfl,λ_ _=>rfl,O.walk (L.pv (Gw ht))]
theorem Sy{i:Nat}(h:Fo t=some i):t= .var i:=by
 unfold Fo at h;split at h
 .cases h;rfl
 .cases h
theorem Jz{a:Stmt}{l:List Stmt}(h:a∈l):sizeOf a < sizeOf l:=List.sizeOf_lt_of_mem h
theorem WK(opx:∀{ct X},Bb ct X W cf k->TN ct X W)(stx:∀{ct X},Bb ct X W cf k->dr ct X W cf k):∀(n:Nat) (s:Stmt),sizeOf s<=n->dw W cf k s:=by
 intro n
 induction n with
 |zero=>intro e h;cases e<;>simp at h
 |succ n ih=>
   intro s hn ct X t L h;have pk:∀e:Expr,Pk W cf k e:=λe=>EY opx (sizeOf e) e (Nat.le_refl _)
   have ihl:∀(ss:List Stmt),sizeOf ss<=n->ZN W cf k ss:=λss hs=>M6 λe he=>ih e (by have:=Jz he;lia)
   cases s with
   |Assign tgs e pos=>
     rintro⟨tg,h1,hq⟩:Ab h;clear h;cases E1 h1;cases tg with
     |Name x p=>
       rintro⟨i,h2,hr⟩:Ab (show((ct.Cy x).bind λi=>match PD ct e with
        |some j=>some (.pop (some i) j)
        |none=>(kE ct e).map λt=>.asg (.nm i) t)=some t from hq)
       clear hq;cases ep:PD ct e with
       |some j=>rw[ep]at hr;cases hr;exact(stx L).aU h2 ep
       |none=>
         rw[ep]at hr;rintro⟨u,h3,rfl⟩:AU hr;rintro⟨t1,t2,t3⟩:L.Cy h2;exact Ei ((pk e L h3).a i x p pos L.nd t1 t2 t3) λD Y H hl z=>YA (by rw[hl];exact(List.getElem?_eq_some_iff.mp t1).1) z
     |Tuple es n p=>
       replace hq:(if Cb e then none else(kE ct e).bind λt=>(JV ct es).map λis=>.asg (.tup is) t)=some t:=hq;cases et:Cb e with
       |true=>rw[et]at hq;cases hq
       |false=>
         rw[et]at hq;rintro⟨u,h2,hr⟩:Ab hq;rintro⟨is,h3,rfl⟩:AU hr;exact(stx L).tup et (pk e L h2) h3
     |Subscript v i p=>
       rintro⟨u,h3,hr⟩:Ab (show((kE ct e).bind λt=>if IJ i then none else(kE ct i).bind λk=>match QB v with
        |some q=>((GX q.1).bind ct.slot).bind λj=>(ct.fld.idxOf? q.2.1).map λf=>.Ce j false (Ds (Bz f)) [t,k]
        |none=>((GX v).bind ct.slot).map λj=>.Ce j false (Ds λc x k=>Dp c k x) [t,k])=some t from hq)
       cases et:IJ i with
       |true=>rw[et]at hr;cases hr
       |false=>
         rw[et]at hr;rintro⟨w,h6,hr⟩:Ab hr;cases ea:QB v with
         |none=>
           rw[ea]at hr;rintro⟨j,h2,rfl⟩:AU hr;rintro⟨y,h4,h5⟩:Ab h2;rintro⟨q,rfl⟩:C1 h4;exact(stx L).put (i:=0) h5 et (pk e L h3) (pk i L h6)
         |some q=>
           rw[ea]at hr;rintro⟨j,h2,hr⟩:Ab hr;rintro⟨f,h7,rfl⟩:AU hr;rintro⟨y,h4,h5⟩:Ab h2;cases TC ea;rintro⟨p',hp⟩:C1 h4;rintro⟨q1,q2,q3⟩:q;dsimp only at hp h7 ⊢;subst hp;exact(stx L).aT h5 h7 et (pk e L h3) (pk i L h6)
     |Attribute o f p=>
       rintro⟨j,h2,hr⟩:Ab (show(((GX o).bind ct.slot).bind λj=>(ct.fld.idxOf? f).bind λn=>(kE ct e).map λt=>.Ce j false (EJ (FF n)) [t])=some t from hq);rintro⟨n,h3,hr⟩:Ab hr;rintro⟨u,h6,rfl⟩:AU hr;rintro⟨y,h4,h5⟩:Ab h2;rintro⟨q,rfl⟩:C1 h4;exact(stx L).aF h5 h3 (pk e L h6)
     |_=>cases hq
   |Expr e pos=>
     replace h:(if BF e then none else match PH ct e with
      |some s=>some s
      | none=>match Zm ct e with
        |some s=>some s
        |none=>(kE ct e).map .expr)=some t:=h
     cases et:BF e with
     |true=>rw[et]at h;cases h
     |false=>
       rw[et]at h;cases em:PH ct e with
       |some s=>rw[em]at h;cases h;exact(stx L).mt et em
       |none=>
         rw[em]at h;cases ec:Zm ct e with
         |some s=>rw[ec]at h;cases h;exact(stx L).cm et ec
         |none=>
         rw[ec]at h;rintro⟨u,h1,rfl⟩:AU h;exact C0 (Ej (pk e L h1).v (Jt et _ _ _)) λD Y H z=>Vz z
   |Return o pos=>
     cases o with
     |none=>
       cases h;exact C0 RQ λD Y H z=>Vu z
     |some e=>
       replace h:(match(GX e).bind ct.slot with
        |some i=>some (.CG i)
        |none=>(kE ct e).map .ret)=some t:=h
       cases em:(GX e).bind ct.slot with
       |some i=>
         rw[em]at h;cases h;rintro⟨y,h4,h5⟩:Ab em;rintro⟨q,rfl⟩:C1 h4;exact C0 (OD (L.pv h5)) λD Y H z=>Vt z
       |none=>
         rw[em]at h;rintro⟨u,h1,rfl⟩:AU h;exact C0 (OD (pk e L h1).v) λD Y H z=>Ud z
   |If c a b pos=>
     simp at hn;rintro⟨u,h1,h⟩:Ab h;rintro⟨x,h2,h⟩:Ab h;rintro⟨y,h3,rfl⟩:AU h;exact C0 (YN (pk c L h1).b (ihl a (by lia) L h2) (ihl b (by lia) L h3)) λD Y H z=>aG z
   |While c b o pos=>
     simp at hn;rintro⟨ho,hq⟩:C4 h;rintro⟨u,h1,hq⟩:Ab hq;rintro⟨x,h2,rfl⟩:AU hq;cases isEmpty_iff.mp ho;exact C0 (OC L.po (pk c L h1).b (ihl b (by lia) L h2)) λD Y H z=>RE z
   |For tg it b o pos=>
     simp at hn;rintro⟨ho,hq⟩:C4 h;clear h;rintro⟨g,h1,hq⟩:Ab hq;rintro⟨q,h2,hq⟩:Ab hq;rintro⟨x,h3,hq⟩:Ab hq;rintro⟨hm,rfl⟩:A3 hq;cases isEmpty_iff.mp ho;rintro⟨g1,g2⟩:OL L h1;rintro⟨ks,u⟩:q;cases el:Fo u with
     |some i=>
       cases Sy el;rintro⟨st,hd,hd2,hi⟩:SJ (opx L) L h2 (by simpa[Z9,Fo]using hm);exact Ei (OE L.po L.calm hi g1 (ihl b (by lia) L h3) (DI st _)) λD Y H hl z=>Vy hd hd2 (λi hi=>by rw[hl];exact g2 i hi) z
     |none=>
       rintro⟨st,wi,hi,hw⟩:PJ (opx L) L h2 (pk it) λas p pos x _ a _=>pk a
       refine Ei (OE L.po L.calm hi g1 (ihl b (by lia) L h3) (DI st _)) λD Y H hl z=>YC hw (λi hi=>by rw[hl];exact g2 i hi) ?_
       rintro⟨Hin,A0,Bo,U,S,hA⟩:z;refine#[Hin,A0,Bo,U,S,?_];simp only[Nv.exec,el]at hA;exact hA
   |_=>cases h
end
section
variable{k:Nat}{ct:Ct}
def Oy(K:Frag):V->List V->Hp->VK->Prop:=λx vs H Q=>∃l b xs zs,x= .ref l/\vs=[.ref b]/\H l=some (.lst xs)/\D1 K H b zs/\xs.length+zs.length<=sizeLine/\Q .AG (upd H l (.lst (xs++zs)))
theorem Ss:Xp X "list.extend" (Oy X.K):=by
 intro p0 s Y H x vs v us Q I rx rv h;rintro⟨l,b,xs,zs,rfl,rfl,hH,hB,hz,q⟩:h;cases rx;rintro⟨u,rfl,ru⟩:rv.one;cases ru;rintro⟨z,its,n,r,hl,e⟩:I.Pj hH;rintro⟨its2,r2,ht,hz2⟩:I.tuple hB;have hl2:=r2.length;rintro⟨⟨cl,Bl,dat,sl⟩,e2,c2,n2,d2⟩:ht;have c2:cl= .type "tuple":=c2;have d2:dat= .seq its2.toArray n2:=d2;subst c2 d2;have hsz:its.toArray.size+its2.toArray.size<=sizeLine:=by rw[size_toArray,size_toArray];lia
 have hlong:¬(!its.toArray.isEmpty && Builtin.List.listTooLong (its.toArray.size + its2.toArray.size))=true:=by
  rw[JJ hsz,Bool.and_false];exact Bool.false_ne_true
 refine call_meets F.slot_list_extend #[_,e,rfl] F.entry_list_extend (F.args_list_extend_2 _ _)
  (T4 l its.toArray n b its2.toArray n2 Bl sl hlong (by rw[size_toArray];lia) (by lia)) #[e,e2,?_]
 refine#[.AG,_,I.Pl (its':=its++its2) hH e (by simp) (r.append r2) ?_,rfl,q];rw[lA]
 lia
theorem Wt:Xp X "list.extend" (λx vs H Q=>Iu x vs H Q\/Oy X.K x vs H Q):=λp0 s Y H x vs v us Q I rx rv h=>h.elim (N7 p0 s Y H x vs v us Q I rx rv) (Ss p0 s Y H x vs v us Q I rx rv)
theorem Pf(hK:W.K=X.K):∀x vs H Q,Gm W (EJ IW) x vs H Q->Iu x vs H Q\/Oy X.K x vs H Q:=by
 rintro x vs H Q ⟨own,bor,c,cs,c',h1,h2,e,q⟩
 rintro⟨a,rfl,e⟩:OX e;rintro⟨ps,ep,e⟩:Ab e;rintro⟨qs,eq,e⟩:Ab e;rintro⟨ws,ew,rfl⟩:AU e;rintro⟨hl,rfl⟩:A3 (show(if(ps++qs).length<=big then some (ps++qs)else none)=some ws from ew);cases FY ep;rintro⟨v,rfl,r⟩:Uh h2;rintro⟨l,ws,rfl,k1,k2,k3⟩:ED h1 q;have l1:=Paired.length k2;have bl:=Bw;rw[lA]at hl;rcases or_some eq with eq|eq
 .obtain⟨b,us,rfl,q1,q2⟩:=Bn eq r;have l2:=Paired.length q2;exact .inl #[l,b,ws,us,rfl,rfl,k1,q1,by lia,k3 _ _ (Pd.append k2 q2)]
 .obtain⟨x,ex,et⟩:=Ab eq;cases C.BO ex;cases P.Bs et;rintro⟨b,us,rfl,q1,q2⟩:CH r;have l2:=Paired.length q2;exact .inr #[l,b,ws,us,rfl,rfl,k1,by rw[<-hK];exact q1,by lia,k3 _ _ (Pd.append k2 q2)]
theorem RR{q:P×C}(h:JG c=some q):∃ps,c= .lst true ps/\ps.getLast? =some q.1/\q.2= .lst true ps.dropLast:=by
 cases c with
 |lst o ps=>
   cases o with
   |true=>rintro⟨x,h1,rfl⟩:AU (show(ps.getLast?.map λx=>(x,C.lst true ps.dropLast))=some q from h);exact#[ps,rfl,h1,rfl]
   |false=>cases h
 |_=>cases h
theorem Pd.last{ps:List P}{vs:List V}(h:Cw W H ps vs){x:P}(e:ps.getLast? =some x):∃v,vs[vs.length - 1]? =some v/\A5 W H x v/\Cw W H ps.dropLast vs.dropLast:=by
 induction h with
 |nil=>cases e
 |cons h1 h2 ih=>
   rename_i p v ps vs;cases h2 with
   |nil=>cases e;exact#[v,rfl,h1,.nil]
   |cons h3 h4=>
     rintro⟨w,e1,e2,e3⟩:ih (by simpa using e);exact#[w,by simpa using e1,e2,.cons h1 e3]
theorem TZ{U:Env}{i:Nat}{q:P×C}(S:Aq W Hin A0 Bo H U Y)(h:(A8 U i).bind JG=some q):∃a ws v,Y[i]? =some (some (.ref a))/\H a=some (.lst ws)/\ws[ws.length - 1]? =some v/\Aq W Hin A0 Bo (upd H a (.lst ws.dropLast)) (U.set i (some q.2)) Y/\A5 W (upd H a (.lst ws.dropLast)) q.1 v:=by
 rintro⟨c,hg,hp⟩:Ab h;rintro⟨ps,rfl,h1,h2⟩:RR hp;rintro⟨O,hO⟩:S.env;rintro⟨x,q1,q2⟩:hO i _ hg;rintro⟨a,ws,rfl,k1,k2⟩:q2;rintro⟨v,e1,e2,e3⟩:Pd.last k2 h1;have kp:=BR (u':=.lst ws.dropLast) k1.1 EV.1 EV.2.1;refine#[a,ws,v,q1,k1.1,e1,S.chg hO hg q1 k1.2 k1.1 EV ?_,e2.mono kp];rw[h2];exact#[a,ws.dropLast,rfl,#[A6,k1.2],e3.mono kp]
theorem Vx{i:Nat}(K:Frag)(h:tS W [] (Nv.exec cf As (.pop none i)) D Y H):Jq (Vf K "list" VG (EO i)) D Y H:=by
 rintro⟨Hin,A0,Bo,U,S,hA⟩:h
 replace hA:Bh W Hin A0 Bo [] D Y (match(A8 U i).bind JG with
  |some q=>.nx (U.set i (some q.2))
  |none=>.stuck):=hA
 cases e:(A8 U i).bind JG with
 |none=>rw[e]at hA;exact hA.elim
 |some q=>
   rw[e]at hA;rintro⟨a,ws,v,q1,q2,q3,S',r⟩:TZ S e;exact#[_,q1,.inl #[rfl,ws,DO.of q2],a,ws,v,rfl,rfl,q2,q3,hA _ _ S' (AL.refl _ _)]
theorem Vw{i j:Nat}(K:Frag)(hj:j < Y.length)(h:tS W [j] (Nv.exec cf As (.pop (some j) i)) D Y H):Js (Vf K "list" VG (EO i)) (Ew j) D Y H:=by
 rintro⟨Hin,A0,Bo,U,S,hA⟩:h
 replace hA:Bh W Hin A0 Bo [j] D Y (match(A8 U i).bind JG with
  |some q=>if j=i then .stuck else .nx ((U.set i (some q.2)).set j (some (.p q.1)))
  |none=>.stuck):=hA
 cases e:(A8 U i).bind JG with
 |none=>rw[e]at hA;exact hA.elim
 |some q=>
   rw[e]at hA;dsimp only at hA;split at hA
   .exact hA.elim
   rintro⟨a,ws,v,q1,q2,q3,S',r⟩:TZ S e;exact#[_,q1,.inl #[rfl,ws,DO.of q2],a,ws,v,rfl,rfl,q2,q3,hA _ _ (S'.set (B:=λ_=>True) (Ext.refl _) S'.tb hj rfl r) (AL.set mS)]
end
section
variable{k:Nat}{ct:Ct}
theorem ID{q:Nat×Str×List Expr}(h:Mi ct e=some q):∃x p ap pos,e= .Call (.Attribute (.Name x p) q.2.1 ap) q.2.2 [] pos/\Ja q.2.2.length ap pos=true/\ct.slot x=some q.1:=by
 rintro⟨c,h1,h⟩:Ab h;rintro⟨a,h2,h⟩:Ab h;rintro⟨x,h3,h⟩:Ab h;rintro⟨hc,h⟩:C4 h;rintro⟨i,h4,rfl⟩:AU h;rw[bA]at hc;cases e with
 |Call f as kw pos=>
   cases h1;cases f with
   |Attribute o m ap=>
     cases h2;rintro⟨p,rfl⟩:C1 h3;cases isEmpty_iff.mp hc.1;exact#[x,p,ap,pos,rfl,hc.2,h4]
   |_=>cases h2
 |_=>cases h1
variable{ap pos:Pos}
theorem CO{n:Nat}(h:Ja n ap pos=true):(ap.endLine == pos.line)=true:=by
 unfold Ja at h;rw[bA]at h;exact h.1
theorem ZA(h:A7 a=true):((backTo pos (starEach [a] X.env)).all (λx=>!x.1) && (backToKw pos (keywordEach [] X.env)).all (λx=>x.1.isSome)
 && decide (([a]:List Expr).length+([]:List Keyword).length+(if([]:List Keyword).isEmpty then 0 else 1) < 30))=true:=by
 rw[A2 h [] X.env];rfl
variable{cp:Pos}
theorem Oc(L:Bb ct X W cf k){i:Nat}(hs:ct.slot x=some i)(hm:Ja 0 ap cp=true):PS X (.Expr (.Call (.Attribute (.Name x p) "pop" ap) [] [] cp) pos) (rS W cf (.pop none i)):=
 C0 (Ej (KP PySem.F.plainAttrs_list PySem.F.slot_list_pop PySem.F.type_list_pop P6 (L.pv hs) rfl (CO hm))) λD Y H z=>Vx X.K z
theorem Ob(L:Bb ct X W cf k){i j:Nat}(ht:ct.Cy x=some i)(h:PD ct e=some j):PS X (.Assign [.Name x p] e pos) (rS W cf (.pop (some i) j)):=by
 rintro⟨q,h1,h2⟩:Ab h;rintro⟨⟨e1,e2⟩,rfl⟩:A3 h2;rintro⟨y,yp,ap,cp,rfl,hm,hs⟩:ID h1;rw[isEmpty_iff.mp e2]at hm ⊢;rw[e1];rintro⟨t1,t2,t3⟩:L.Cy ht;exact Ei (KI L.nd t1 t2 (KP PySem.F.plainAttrs_list PySem.F.slot_list_pop PySem.F.type_list_pop P6 (L.pv hs) rfl (CO hm)) rfl t3) λD Y H hl z=>Vw X.K (by rw[hl];exact(List.getElem?_eq_some_iff.mp t1).1) z
theorem Od(L:Bb ct X W cf k){x m:Str}{i:Nat}{f:C->List C->Option C}{id:String}{r:V->List V->Hp->VK->Prop}(slot:Slot "list" m id)(hty:typeOf (.builtin id)=pure (.type "method_descriptor"))(hM:Xp X id r)(hr:∀x vs H Q,Gm W f x vs H Q->r x vs H Q)
 (hs:ct.slot x=some i)(hm:Ja 1 ap cp=true)(ha:AR X W cf a t):PS X (.Expr (.Call (.Attribute (.Name x p) m ap) [a] [] cp) pos) (rS W cf (.Ce i true f [t])):=
 C0 (Ej (Up PySem.F.plainAttrs_list slot hty hM (L.pv hs) (OT (.cons ha .nil)) rfl (ZA ha.st) (CO hm) (A2 ha.st [] X.env))) λD Y H z=>Ue X.K hr z
theorem WT(l:List Value)(k:Nat)(y:Value):(l.toArray.extract 0 k).push y++l.toArray.extract k=(l.take k++y::l.drop k).toArray:=by
 apply Array.toList_inj.mp;simp;exact take_of_length_le (by simp)
def YL:V->List V->Hp->VK->Prop:=λx vs H Q=>∃l xs i y,x= .ref l/\vs=[.int i,y]/\H l=some (.lst xs)/\0<=i/\i<=xs.length/\xs.length < big/\Q .AG (upd H l (.lst (xs.take i.toNat++y::xs.drop i.toNat)))
theorem N6:Xp X "list.insert" YL:=by
 intro p0 s Y H x vs v us Q I rx rv h;rintro⟨l,xs,i,y,rfl,rfl,hH,h0,hi,hz,q⟩:h;cases rx;rintro⟨u,w,rfl,⟨t,rfl⟩,rw'⟩:rv.two;rintro⟨z,its,n,r,hl,e⟩:I.Pj hH;have hb:=Bw;have hbb:big=100000:=rfl;have hf:Builtin.List.listFitsIndex i=true:=fitsIndex_both (by lia) (by lia);refine call_meets F.slot_list_insert #[_,e,rfl] F.entry_list_insert (F.args_list_insert_3 _ _ _) (AutoSeq1.list_insert_list_int_val_1 l its.toArray n i t w (by simp[hf]) (by rw[size_toArray];lia)) #[e,?_];refine#[.AG,_,I.Pl (its':=its.take i.toNat++w::its.drop i.toNat) hH e ?_ ((r.take _).append (.cons rw' (r.drop _))) ?_,rfl,q]
 .show(its.toArray.extract 0 (if i < 0 then(i+(its.toArray.size:Int)).toNat else min i.toNat its.toArray.size)).push w++its.toArray.extract (if i < 0 then(i+(its.toArray.size:Int)).toNat else min i.toNat its.toArray.size)=_;rw[iN (by lia),size_toArray,show min i.toNat its.length=i.toNat by lia];exact WT its _ w
 .rw[lA,lC,length_take,length_drop]
  lia
theorem Pe:∀x vs H Q,Gm W (Ds SV) x vs H Q->YL x vs H Q:=by
 rintro x vs H Q ⟨own,bor,c,cs,c',h1,h2,e,q⟩
 rintro⟨a,b,rfl,e⟩:IA e;rintro⟨ps,ep,e⟩:Ab e;rintro⟨i,ei,e⟩:Ab e;rintro⟨y,ey,e⟩:Ab e;rintro⟨hl,rfl⟩:A3 e;cases FY ep;cases C.AW ei;cases C.BO ey;rintro⟨v,u,rfl,r1,r2⟩:Ow h2;cases AZ r1;rintro⟨l,ws,rfl,k1,k2,k3⟩:ED h1 q;have:=Paired.length k2;exact#[l,ws,i,u,rfl,rfl,k1,hl.1,by lia,by lia,k3 _ _ (Pd.insert (GW r2) _ k2)]
theorem bN(h:A7 a=true)(h2:A7 b=true):((backTo pos (starEach [a,b] X.env)).all (λx=>!x.1) && (backToKw pos (keywordEach [] X.env)).all (λx=>x.1.isSome)
 && decide (([a,b]:List Expr).length+([]:List Keyword).length+(if([]:List Keyword).isEmpty then 0 else 1) < 30))=true:=by
 rw[A2 h [b] X.env,A2 h2 [] X.env];rfl
theorem Ri(L:Bb ct X W cf k){i:Nat}(hs:ct.slot x=some i)(hm:Ja 2 ap cp=true)(ha:AR X W cf a t)(hb:AR X W cf b u):PS X (.Expr (.Call (.Attribute (.Name x p) "insert" ap) [a,b] [] cp) pos) (rS W cf (.Ce i true (Ds SV) [t,u])):=
 C0 (Ej (Up PySem.F.plainAttrs_list PySem.F.slot_list_insert PySem.F.type_list_insert N6 (L.pv hs) (OT (.cons ha (.cons hb .nil))) rfl (bN ha.st hb.st) (CO hm) (A2 ha.st [b] X.env) (by rw[A2 hb.st [] X.env];rfl))) λD Y H z=>Ue X.K Pe z
theorem Vj(opx:∀{ct X},Bb ct X W cf k->TN ct X W)(L:Bb ct X W cf k){t:S}(h:PH ct e=some t):PS X (.Expr e pos) (rS W cf t):=by
 rintro⟨q,h1,h2⟩:Ab h;clear h;rintro⟨y,yp,ap,cp,rfl,hm,hs⟩:ID h1;clear h1;rintro⟨i,m,args⟩:q;dsimp only at h2 hm hs ⊢;split at h2
 .rename_i hc;cases h2;rintro⟨rfl,e2⟩:hc;cases isEmpty_iff.mp e2;exact Oc L hs hm
 split at h2
 .rename_i hc;rintro⟨ab,h3,h2⟩:Ab h2;rintro⟨t1,h4,h2⟩:Ab h2;rintro⟨t2,h5,rfl⟩:AU h2;cases G9 h3;subst hc;exact Ri L hs hm (EY opx (sizeOf ab.1) ab.1 (Nat.le_refl _) L h4) (EY opx (sizeOf ab.2) ab.2 (Nat.le_refl _) L h5)
 .obtain⟨f,h3,h2⟩:=Ab h2;rintro⟨a,h4,h2⟩:Ab h2;rintro⟨u,h5,rfl⟩:AU h2;cases E1 h4;have hsn:=EY opx (sizeOf a) a (Nat.le_refl _) L h5;unfold Zd at h3;split at h3
  .rename_i hx;subst hx;cases h3;exact Od L PySem.F.slot_list_append PySem.F.type_list_append N8 Ph hs hm hsn
  .obtain⟨rfl,rfl⟩:=A3 h3;exact Od L PySem.F.slot_list_extend PySem.F.type_list_extend Wt (Pf L.K) hs hm hsn
end
section
variable{prog:Program}{w:World}{A:Around}{E:Va}
variable{vs:Array Value}
theorem HJ{it l:Addr}(hne:l≠it):∀(n i:Nat) (s:Shared) (Q:List Value->Shared->Prop),s.heap.IsListIter it l i->s.heap.IsList l vs->i + n<=vs.size->
 (∀h',h'.IsListIter it l (i+n)->Heap.SameBut it s.heap h'->Q ((vs.toList.drop i).take n) {s with heap:=h'})->wpAny (model prog w) A (draw (.ref it) n) Q E s
 |0,i,s,Q,hit,_,_,hQ=>wpAny_pure (by simpa using hQ s.heap hit (Heap.SameBut.refl ..))
 | n + 1,i,s,Q,hit,hl,hle,hQ=>by
   have hlt:i < vs.size:=by lia
   show wpAny _ _ (pyNext (.ref it) >>= _) Q E s;refine wB (wpAny_pyNext_list_item hit hl (x:=vs[i]) (by simp[hlt]) λh1 t1 s1=>?_);refine wB (wpAny_holding (HJ hne n (i+1) _ _ t1 (hl.extBut s1.extBut hne) (by lia) λh2 t2 s2=>wpAny_pure ?_));have:=hQ h2 (by rw[show i+(n+1)=i+1+n by lia];exact t2) (s1.trans s2);rw[show vs.toList.drop i=vs[i]::vs.toList.drop (i+1)by simp[drop_eq_getElem_cons,hlt],List.take_succ_cons]at this;exact this
theorem QD{env:PySem.Env}{es:List Expr}{x1}{pos:Pos}{Q:Unit->Shared->Prop}(hh:A.handled=none)(hl:s.heap.IsList l vs)(hn:(assignEach es env).length=vs.size)(hst:(assignEach es env).findIdx? (·.1)=none)
 (h:∀h',Heap.ExtBut s.heap.objs.size s.heap h'->wpAny (model prog w) A (assignInOrder ((assignEach es env).map (·.2)) vs.toList) Q E {s with heap:=h'}):wpAny (model prog w) A (assign (.Tuple es x1 pos) env (.ref l)) Q E s:=by
 rw[assign_Tuple];refine wB (wpAny_standAt ?_);unfold unpack;rw[hn,hst];refine wB (wpAny_holding ?_);have hlt:l≠s.heap.objs.size:=by rintro⟨o,ho,_⟩:hl;exact Nat.ne_of_lt (hZ ho)
 unfold unpackItems;refine wB ?_;unfold notIterableAtAll;refine wB (wpAny_specialOf hl.typeIs slot_list_iter.lookup ?_);refine wpAny_pure ?_;simp only[Bool.false_eq_true,if_false];refine wB (wpAny_holding (wpAny_pyIter_list hl ?_));refine wB (wpAny_holding (HJ hlt vs.size 0 _ _ #[_,Heap.get?_push_size _ rfl,rfl,rfl] (hl.push _) (by lia) λh1 t1 s1=>?_));rw[show List.take vs.size (List.drop 0 vs.toList)=vs.toList by rw[drop_zero];exact take_of_length_le (by simp)];rw[iN (by simp)];refine wB (wpAny_holding (wpAny_pyNext_list_end hh t1 ((hl.push _).extBut s1.extBut hlt) (by simp) λh2 e2=>?_));simp only[Option.isSome_none,Bool.false_eq_true,if_false];exact wpAny_pure (h h2 λb o hb e=>e2 b o hb (s1.extBut b o hb (gP e)))
end
section
variable{k:Nat}{ct:Ct}
def bK(K:Frag)(n:Nat)(t:QS):TG:=λv Y H Q=>∃a xs,v= .ref a/\(DO K H a xs\/D1 K H a xs)/\xs.length=n/\t xs Y H Q
variable{pos:Pos}
theorem VN{es:List Expr}{k:Nat}{t:QS}{n:Nat}(hc:X.calm=true)(h:XN X es t)(hn:(assignEach es X.env).length=n)(hst:(assignEach es X.env).findIdx? (·.1)=none):PG X (.Tuple es k pos) (bK X.K n t):=by
 intro p0 s Y H v u Q I r hw;rintro⟨a,xs,e1,hq,hl,hw⟩:hw;rcases hq with hq|hq
 .subst e1;cases r;rintro⟨its,rv,p,hz⟩:I.list hq;refine QD (I.ok.hd hc) p.isList (by simp[hn,<-hl,rv.length]) hst λh' hx=>?_
  have I1:Inv X p0 Y H {s with heap:=h'}:=I.kept (t':=s.toks) λb o e=>hx b o (Nat.ne_of_lt (hZ e)) e
  exact h p0 _ Y H xs _ Q I1 (by simpa using rv) hw
 .exact OJ hc h hn hst p0 s Y H v u Q I r #[a,xs,e1,hq,hl,hw]
variable{env:PySem.Env}
theorem Vh{es:List Expr}{n:Nat}(h:Cb e=false):swappedStores [.Tuple es n p] e env=pure none:=by
 cases e<;>first|rfl|cases h
theorem Vg{es:List Expr}{n l:Nat}:swapsWithSole [.Tuple es n p] e l env=pure false:=by
 cases e<;>rfl
theorem Rg(L:Bb ct X W cf k){es:List Expr}{n:Nat}{is:List Nat}(ht:Cb e=false)(hs:AR X W cf e t)(hk:JV ct es=some is):PS X (.Assign [.Tuple es n p] e pos) (rS W cf (.asg (.tup is) t)):=by
 rintro⟨q1,q2,q3,q4⟩:KN L hk;refine Ei (KJ hs.v (VN L.calm q1 q2 q3) Vg (Vh ht)) λD Y H hl z=>?_
 rintro⟨Hin,A0,Bo,U,S,hA⟩:z
 replace hA:Bh W Hin A0 Bo is D Y ((ev cf t U).fl λc=>match Gg (.tup is) c U with
  |some U'=>.nx U'
  |none=>.stuck):=hA
 refine#[U,_,S.rev,hA.step S λc v H1 e t r h1=>?_];cases es:Gg (.tup is) c U with
 |none=>rw[es]at h1;exact h1.elim
 |some U'=>
   rw[es]at h1;rintro⟨ps,e1,e2⟩:Ab (show((match c with| .lst _ ps=>some ps| .p x=>x.CL |_=>none).bind λps=>Cs (.tup is) (.tup ps) U)=some U' from es);rintro⟨hlen,e3⟩:A3 (show(if is.length=ps.length then some ((is.zip ps).foldl (λr q=>r.set q.1 (some (.p q.2))) U)else none)=some U' from e2)
   have key:∃a xs,v= .ref a/\(DO X.K H1 a xs\/D1 X.K H1 a xs)/\Cw W H1 ps xs:=by
    cases c with
    |lst o qs=>
      cases e1;rintro⟨a,xs,z1,z2,z3⟩:ES (c:=.lst o ps) rfl r;exact#[a,xs,z1,by rw[<-L.K];exact z2,z3]
    |p x=>
      cases P.Bs e1;rintro⟨a,xs,z1,z2,z3⟩:CH r;exact#[a,xs,z1,.inr (by rw[<-L.K];exact z2),z3]
    |_=>cases e1
   rintro⟨a,xs,z1,z2,z3⟩:key;have:=Paired.length z3;refine#[a,xs,z1,z2,by lia,Lj z3 hlen (S.ext e t) (λi hi=>by rw[hl];exact q4 i hi) λY' s u=>?_];rw[e3]at s;exact h1 Y' H1 s u
end
variable{Pg:Program}
theorem BY{xs:List V}(Aj:DC Pg W.w H h)(By:W.K.In h)(hs:D1 W.K H a xs):∃its:List Value,Vals xs its/\IsTup h a its.toArray:=by
 rcases hs with hs|⟨o,its,n,hk,hc,hd,hz,r⟩
 .obtain⟨z,its,r,p⟩:=hs.ok Aj;exact#[its,r,p]
 .exact#[its.toList,r,#[o,By a o hk,hc,n,by simpa using hd]]
variable{ys:List V}{us:List Value}
theorem Nj{xs:List V}{zs:List Value}(hx:Vals xs us)(hy:Vals ys zs)(p:IsTup h a us.toArray)(q:IsTup h a zs.toArray):xs=ys:=by
 rintro⟨o,e1,_,n,d1⟩:p;rintro⟨o',e2,_,n',d2⟩:q;rw[e1]at e2;cases e2;rw[d1]at d2;injection d2 with d3 _
 have:us=zs:=by simpa using congrArg Array.toList d3
 subst this;exact hx.inj hy
def CZ:P->Option V
 |.AG=>some .AG
 |.bl b=>some (.bl b)
 |.int i=>some (.int i)
 |.str x=>some (.str x)
 |_=>none
theorem CY{w:V}(h:A5 W H p v)(e:CZ p=some w):v=w:=by
 cases p with
 |AG=>cases e;exact Dn.mp h
 |bl _=>cases e;exact Cz.mp h
 |int _=>cases e;exact Aa.mp h
 |str _=>cases e;exact AJ.mp h
 |_=>cases e
theorem NG{v:V}(e:CZ p=some v)(f:CZ q=some v):p=q:=by
 cases p<;>cases e<;>cases q<;>cases f<;>rfl
theorem NX{q:P}(h:q.tag < 4):∃v,CZ q=some v:=by
 cases q<;>first|exact#[_,rfl]|(simp[P.tag]at h)
theorem QC{q:P}{v:V}(h:CZ q=some v):q.tag < 4/\q.CL =none/\∀a,v≠.ref a:=by
 cases q<;>cases h<;>exact#[by simp[P.tag],rfl,nofun]
def ZQ(A:Around)(s:Shared)(u z:Value)(b:Bool):Prop:=SeqAt.RcAt A s u z b/\SeqAt.RcNeAt A s u z (!b)/\SeqAt.EqAt A s u z b
theorem Qg[DecidableEq α][BEq α][LawfulBEq α]{f:α->P}(hf:∀a b,f a=f b->a=b)(a b:α):decide (f a=f b)=(a == b):=by
 by_cases h:a=b
 .subst h;simp
 .rw[dF λz=>h (hf _ _ z)];simp[h]
theorem T5{v y:V}{A:Around}(hp:CZ p=some v)(hq:CZ q=some y)(r:RelV v u)(r':RelV y z)(hc:BM p q=true):ZQ A s u z (decide (p=q)):=by
 cases p with
 |AG=>
   cases hp;cases r;cases q with
   |AG=>cases hq;cases r';exact#[SeqAt.RcAt.none_none,SeqAt.RcNeAt.none_none,SeqAt.EqAt.same _]
   |bl b=>cases hq;cases r';exact#[SeqAt.RcAt.none_bool _,SeqAt.RcNeAt.none_bool _,SeqAt.EqAt.none_bool _]
   |int b=>cases hq;rintro⟨t,rfl⟩:r';exact#[SeqAt.RcAt.none_int _ _,SeqAt.RcNeAt.none_int _ _,SeqAt.EqAt.none_int _ _]
   |str b=>cases hq;rintro⟨t,rfl⟩:r';exact#[SeqAt.RcAt.none_str _ _,SeqAt.RcNeAt.none_str _ _,SeqAt.EqAt.none_str _ _]
   |_=>cases hq
 |bl i=>
   cases hp;cases r;cases q with
   |AG=>cases hq;cases r';exact#[SeqAt.RcAt.bool_none _,SeqAt.RcNeAt.bool_none _,SeqAt.EqAt.bool_none _]
   |bl b=>cases hq;cases r';rw[Qg (f:=P.bl) λ_ _=>P.bl.inj];exact#[SeqAt.RcAt.bool_bool _ _,SeqAt.RcNeAt.bool_bool _ _,SeqAt.EqAt.bool_bool _ _]
   |int b=>unfold BM at hc;cases hc
   |str b=>cases hq;rintro⟨t,rfl⟩:r';exact#[SeqAt.RcAt.bool_str _ _ _,SeqAt.RcNeAt.bool_str _ _ _,SeqAt.EqAt.bool_str _ _ _]
   |_=>cases hq
 |int i=>
   cases hp;rintro⟨t,rfl⟩:r;cases q with
   |AG=>cases hq;cases r';exact#[SeqAt.RcAt.int_none _ _,SeqAt.RcNeAt.int_none _ _,SeqAt.EqAt.int_none _ _]
   |bl b=>unfold BM at hc;cases hc
   |int b=>cases hq;rintro⟨t,rfl⟩:r';rw[Qg (f:=P.int) λ_ _=>P.int.inj];exact#[SeqAt.RcAt.int_int _ _ _ _,SeqAt.RcNeAt.int_int _ _ _ _,SeqAt.EqAt.int_int _ _ _ _]
   |str b=>cases hq;rintro⟨t,rfl⟩:r';exact#[SeqAt.RcAt.int_str _ _ _ _,SeqAt.RcNeAt.int_str _ _ _ _,SeqAt.EqAt.int_str _ _ _ _]
   |_=>cases hq
 |str i=>
   cases hp;rintro⟨t,rfl⟩:r;cases q with
   |AG=>cases hq;cases r';exact#[SeqAt.RcAt.str_none _ _,SeqAt.RcNeAt.str_none _ _,SeqAt.EqAt.str_none _ _]
   |bl b=>cases hq;cases r';exact#[SeqAt.RcAt.str_bool _ _ _,SeqAt.RcNeAt.str_bool _ _ _,SeqAt.EqAt.str_bool _ _ _]
   |int b=>cases hq;rintro⟨t,rfl⟩:r';exact#[SeqAt.RcAt.str_int _ _ _ _,SeqAt.RcNeAt.str_int _ _ _ _,SeqAt.EqAt.str_int _ _ _ _]
   |str b=>cases hq;rintro⟨t,rfl⟩:r';rw[Qg (f:=P.str) λ_ _=>P.str.inj];exact#[SeqAt.RcAt.str_str _ _ _ _,SeqAt.RcNeAt.str_str _ _ _ _,SeqAt.EqAt.str_str _ _ _ _]
   |_=>cases hq
 |_=>cases hp
theorem UI{its:Array Value}{v:V}{A:Around}(hp:CZ p=some v)(r:RelV v u)(t:IsTup s.heap b its)(hu:A.units + 1 < cLine):ZQ A s u (.ref b) false/\ZQ A s (.ref b) u false:=by
 have h0:A.units < cLine:=by lia
 cases p with
 |AG=>cases hp;cases r;exact#[#[SeqAt.RcAt.none_tuple t h0,SeqAt.RcNeAt.none_tuple t h0,SeqAt.EqAt.none_tuple t h0],SeqAt.RcAt.tuple_none t h0,SeqAt.RcNeAt.tuple_none t h0,SeqAt.EqAt.tuple_none t h0]
 |bl b=>cases hp;cases r;exact#[#[SeqAt.RcAt.bool_tuple _ t h0,SeqAt.RcNeAt.bool_tuple _ t h0,SeqAt.EqAt.bool_tuple _ t h0],SeqAt.RcAt.tuple_bool _ t h0,SeqAt.RcNeAt.tuple_bool _ t h0,SeqAt.EqAt.tuple_bool _ t h0]
 |int b=>cases hp;rintro⟨t',rfl⟩:r;exact#[#[SeqAt.RcAt.int_tuple _ _ t h0,SeqAt.RcNeAt.int_tuple _ _ t h0,SeqAt.EqAt.int_tuple _ _ t h0],SeqAt.RcAt.tuple_int _ _ t h0,SeqAt.RcNeAt.tuple_int _ _ t h0,SeqAt.EqAt.tuple_int _ _ t h0]
 |str b=>cases hp;rintro⟨t',rfl⟩:r;exact#[#[SeqAt.RcAt.str_tuple _ _ t h0,SeqAt.RcNeAt.str_tuple _ _ t h0,SeqAt.EqAt.str_tuple _ _ t h0],SeqAt.RcAt.tuple_str _ _ t h0,SeqAt.RcNeAt.tuple_str _ _ t h0,SeqAt.EqAt.tuple_str _ _ t h0]
 |_=>cases hp
theorem HN{v:V}(e:CZ p=some v)(h:BM p q=true):(∃y,CZ q=some y)\/∃qs,q= .tup qs:=by
 cases q with
 |tup ps=>exact .inr #[ps,rfl]
 |fn _ _=>cases p<;>cases e<;>(unfold BM at h;cases h)
 |box _ _=>cases p<;>cases e<;>(unfold BM at h;cases h)
 |_=>exact .inl #[_,rfl]
theorem Ka{ps:List P}(h:BM (.tup ps) q=true):(∃y,CZ q=some y)\/∃qs,q= .tup qs/\BA ps qs=true:=by
 unfold BM at h;rw[Bool.or_eq_true]at h;rcases h with h|h
 .exact .inl (NX (of_decide_eq_true h))
 .obtain⟨qs,e1,e2⟩:=any_some h;exact .inr #[qs,P.Bs e1,e2]
mutual
theorem A5.det {h:Heap} (Aj:DC Pg W.w H h) (By:W.K.In h):∀{p q:P} {v:V},A5 W H p v->A5 W H q v->BM p q=true->p=q
 | .tup ps,q,v,hp,hq,hc=>by
   rintro⟨a,vs,rfl,s1,r1⟩:A9.mp hp;rcases Ka hc with⟨y,hy⟩|⟨qs,rfl,hc⟩
   .exact absurd (CY hq hy).symm ((QC hy).2.2 a)
   .obtain⟨b,ws,e,s2,r2⟩:=A9.mp hq;cases e;rintro⟨its,v1,p1⟩:BY Aj By s1;rintro⟨its',v2,p2⟩:BY Aj By s2;cases Nj v1 v2 p1 p2;rw[BV.det Aj By r1 r2 hc]
 | .AG,q,v,hp,hq,hc| .bl _,q,v,hp,hq,hc| .int _,q,v,hp,hq,hc| .str _,q,v,hp,hq,hc=>by
   have e1:=CY hp rfl;rcases HN rfl hc with⟨y,hy⟩|⟨qs,rfl⟩
   .have e2:=CY hq hy;subst e1;subst e2;exact NG rfl hy
   .obtain⟨a,_,e2,_⟩:=A9.mp hq;subst e1;cases e2
 |.fn _ _,q,v,hp,hq,hc| .box _ _,q,v,hp,hq,hc=>by unfold BM at hc;cases hc
theorem BV.det {h:Heap} (Aj:DC Pg W.w H h) (By:W.K.In h):∀{ps qs:List P} {vs:List V},Cw W H ps vs->Cw W H qs vs->BA ps qs=true->ps=qs
 |[],qs,vs,hp,hq,hc=>by cases hp;cases hq;rfl
 | p ::ps,qs,vs,hp,hq,hc=>by
   cases hp with
   |cons h1 h2=>
     cases hq with
     |cons g1 g2=>
       unfold BA at hc;rw[bA]at hc;rw[A5.det Aj By h1 g1 hc.1,BV.det Aj By h2 g2 hc.2]
end
def Ql(b:Bool)(e:Nat->Bool):Nat->Bool
 |0=>b
 |j+1=>e j
theorem NI(b:Bool)(e:Nat->Bool)(n m:Nat):((List.range (min (n + 1) (m + 1))).all (Ql b e) && (n + 1 == m + 1))=(b && ((List.range (min n m)).all e && n == m)):=by
 rw[show min (n+1) (m+1)=min n m+1 by lia,List.range_succ_eq_map,all_cons,List.all_map];have h1:(Ql b e ∘ Nat.succ)=e:=rfl
 have h2:(n + 1 == m + 1)=(n == m):=by
  by_cases h:n=m
  .simp[h]
  .simp[h]
 rw[h1,h2,Bool.and_assoc];rfl
theorem in1_units{A:Around}:A.in1.units=A.units+1:=by first|rfl|simp[Around.in1]
variable{qs:List P}
theorem Tc{ps:List P}:decide (P.tup ps=P.tup qs)=decide (ps=qs):=by
 by_cases h:ps=qs
 .subst h;simp
 .rw[dF h,dF (λz=>h (P.tup.inj z))]
theorem HL{ps:List P}:(P.tup ps).depth=P.Bi ps+1:=by conv=>lhs;unfold P.depth
theorem GN{p:P}{ps:List P}:P.Bi (p::ps)=max p.depth (P.Bi ps):=by conv=>lhs;unfold P.Bi
theorem Ff{v:V}(e:CZ p=some v):decide (p= .tup qs)=false/\decide (P.tup qs=p)=false:=by
 cases p<;>cases e<;>exact#[dF nofun,dF nofun]
theorem Qa{p:P}{w:V}{A:Around}(hp:A5 W H p v)(hq:A5 W H q y)(r:RelV v u)(r':RelV y z)(Aj:DC Pg W.w H s.heap)(By:W.K.In s.heap)(hc:BM p q=true)(hu:A.units + p.depth + 1 < cLine)(hv:CZ p=some w):ZQ A s u z (decide (p=q)):=by
 cases CY hp hv;rcases HN hv hc with⟨w,hy⟩|⟨qs,rfl⟩
 .cases CY hq hy;exact T5 hv hy r r' hc
 .obtain⟨b,ws,rfl,s2,r2⟩:=A9.mp hq;cases r';rintro⟨its,v1,p1⟩:BY Aj By s2;rw[(Ff hv).1];exact(UI hv r p1 (by lia)).1
mutual
theorem Ls:∀(p:P) {q:P} {v y:V} {u z:Value} {A:Around} {s:Shared},A5 W H p v->A5 W H q y->RelV v u->RelV y z->DC Pg W.w H s.heap->W.K.In s.heap->BM p q=true->A.units + p.depth + 1 < cLine->
 ZQ A s u z (decide (p=q))
 | .tup ps,q,v,y,u,z,A,s,hp,hq,r,r',Aj,By,hc,hu=>by
   have hp0:=hp;have hc0:=hc;rintro⟨a,vs,rfl,s1,r1⟩:A9.mp hp;cases r;rintro⟨its,v1,p1⟩:BY Aj By s1;rcases Ka hc with⟨w,hy⟩|⟨qs,rfl,hc⟩
   .cases CY hq hy;rw[(Ff hy).2];exact(UI hy r' p1 (by lia)).2
   .obtain⟨b,ws,rfl,s2,r2⟩:=A9.mp hq;cases r';rintro⟨its',v2,p2⟩:BY Aj By s2;have hu1:A.in1.units=A.units+1:=in1_units;have hdp:=HL (ps:=ps);rintro⟨e,he,hd⟩:Lv ps (A:=A.in1) (s:=s) r1 r2 v1 v2 Aj By hc (by lia);have hj:∀j (h1:j < its.toArray.size) (h2:j < its'.toArray.size),SeqAt.EqAt A.in1 s its.toArray[j] its'.toArray[j] (e j):=λj h1 h2=>he j _ _ (by simp at h1 ⊢) (by simp at h2 ⊢)
    have rc:=SeqAt.RcAt.tuples (A:=A) (s:=s) (e:=e) p1 p2 (by lia) hj;have rn:=SeqAt.RcNeAt.tuples (A:=A) (s:=s) (e:=e) p1 p2 (by lia) hj;rw[size_toArray,size_toArray,hd,<-Tc]at rc rn;refine#[rc,rn,?_]
    by_cases hab:a=b
    .subst hab;rw[dZ (A5.det Aj By hp0 hq hc0)];exact SeqAt.EqAt.same _
    .exact SeqAt.EqAt.of_refs hab rc
 | .AG,q,v,y,u,z,A,s,hp,hq,r,r',Aj,By,hc,hu| .bl _,q,v,y,u,z,A,s,hp,hq,r,r',Aj,By,hc,hu| .int _,q,v,y,u,z,A,s,hp,hq,r,r',Aj,By,hc,hu| .str _,q,v,y,u,z,A,s,hp,hq,r,r',Aj,By,hc,hu=>by
   exact Qa hp hq r r' Aj By hc hu rfl
 |.fn _ _,q,v,y,u,z,A,s,hp,hq,r,r',Aj,By,hc,hu| .box _ _,q,v,y,u,z,A,s,hp,hq,r,r',Aj,By,hc,hu=>by unfold BM at hc;cases hc
theorem Lv:∀(ps:List P) {qs:List P} {vs ws:List V} {us zs:List Value} {A:Around} {s:Shared},Cw W H ps vs->Cw W H qs ws->Vals vs us->Vals ws zs->DC Pg W.w H s.heap->W.K.In s.heap->BA ps qs=true->A.units + P.Bi ps + 1 < cLine->
 ∃e:Nat->Bool,(∀(j:Nat) (x y:Value),us[j]? =some x->zs[j]? =some y->SeqAt.EqAt A s x y (e j))/\((List.range (min us.length zs.length)).all e && us.length == zs.length)=decide (ps=qs)
 | [],qs,vs,ws,us,zs,A,s,hp,hq,r,r',Aj,By,hc,hu=>by
   cases hp;cases r;refine#[λ_=>true,λj x y hx _=>by simp at hx,?_];cases hq with
   |nil=>cases r';rfl
   |cons _ _=>cases r';rw[dF nofun];simp
 | p ::ps,qs,vs,ws,us,zs,A,s,hp,hq,r,r',Aj,By,hc,hu=>by
   cases hp with
   |cons h1 h2=>
     cases r with
     |cons r1 r2=>
       cases hq with
       |nil=>
         cases r';refine#[λ_=>true,λj x y _ hy=>by simp at hy,?_];rw[dF nofun];simp
       |cons g1 g2=>
         rename_i q _ qs _;cases r' with
         |cons q1 q2=>
           unfold BA at hc;rw[bA]at hc;have hd:=GN (p:=p) (ps:=ps);rintro⟨e,he,hdd⟩:Lv ps (A:=A) (s:=s) h2 g2 r2 q2 Aj By hc.2 (by lia);have h0:=(Ls p (A:=A) (s:=s) h1 g1 r1 q1 Aj By hc.1 (by lia)).2.2;refine#[Ql (decide (p=q)) e,λj x y hx hy=>?_,?_]
           .cases j with
            |zero=>
              simp at hx hy;subst hx hy;exact h0
            |succ j=>exact he j x y (by simpa using hx) (by simpa using hy)
           .rw[lC,lC,NI,hdd]
            by_cases h1:p=q<;>by_cases h2:ps=qs<;>simp[h1,h2]
end
theorem Po{ps:List P}{xs:List V}{Y:L2.St}(hK:W.K=X.K)(hw:W.w=X.w)(hu:X.A.units + 200 < cLine)(I:∅)(ha:Rd H a (.lst xs))(hb:Rd H b (.lst ys))(h1:Cw W H ps xs)(h2:Cw W H qs ys)
 (hc:BA ps qs=true)(hd:P.Bi ps<=90):SeqAt.RcAt X.A s (.ref a) (.ref b) (decide (ps=qs))/\SeqAt.RcNeAt X.A s (.ref a) (.ref b) (!decide (ps=qs)):=by
 rintro⟨its1,r1,p1,z1⟩:I.list (.inl ha);rintro⟨its2,r2,p2,z2⟩:I.list (.inl hb);have hu1:X.A.in1.units=X.A.units+1:=in1_units;rintro⟨e,he,hd⟩:Lv (Pg:=X.prog) ps (A:=X.A.in1) (s:=s) h1 h2 r1 r2 (hw▸I.Aj) (hK▸I.Gz) hc (by lia)
 by_cases hl:its1.length=its2.length
 .have e1:((List.range its1.toArray.size).all e)=decide (ps=qs):=by
   rw[<-hd,size_toArray,<-hl];simp
  have hj:∀j (h1:j < its1.toArray.size) (h2:j < its2.toArray.size),SeqAt.EqAt X.A.in1 s its1.toArray[j] its2.toArray[j] (e j):=λj h1 h2=>he j _ _ (by simp at h1 ⊢) (by simp at h2 ⊢)
  have q1:=SeqAt.RcAt.lists (e:=e) p1.isList p2.isList (by rw[size_toArray,size_toArray];exact hl) (by lia) hj;have q2:=SeqAt.RcNeAt.lists (e:=e) p1.isList p2.isList (by rw[size_toArray,size_toArray];exact hl) (by lia) hj;rw[e1]at q1 q2;exact#[q1,q2]
 .have e1:decide (ps=qs)=false:=by
   rw[<-hd];simp[hl]
  rw[e1]
  have hne:(its1.toArray.size != its2.toArray.size)=true:=by
   rw[size_toArray,size_toArray];simpa using hl
  exact#[SeqAt.RcAt.lists_lengths p1.isList p2.isList hne (by lia),SeqAt.RcNeAt.lists_lengths p1.isList p2.isList hne (by lia)]
theorem Q9(hK:W.K=X.K)(hw:W.w=X.w)(hu:X.A.units + 200 < cLine){Y:L2.St}{t:Bool}(I:∅)(rx:RelV x v)(ry:RelV y u)(h1:Dj W H c1 x)(h2:Dj W H c2 y)(e:X7 c1 c2=some t):
 SeqAt.RcAt X.A s v u t/\SeqAt.RcNeAt X.A s v u (!t):=by
 rcases or_some e with e|e
 .obtain⟨p,e1,e⟩:=Ab e;rintro⟨q,e2,e⟩:Ab e;rintro⟨hc,rfl⟩:A3 e;cases C.BO e1;cases C.BO e2;have z:=Ls (Pg:=X.prog) p (A:=X.A) (GW h1) (GW h2) rx ry (hw▸I.Aj) (hK▸I.Gz) hc.1 (by lia);exact#[z.1,z.2.1]
 .obtain⟨p,e1,e⟩:=Ab e;rintro⟨q,e2,e⟩:Ab e;rintro⟨hc,rfl⟩:A3 e;rintro⟨a,xs,rfl,k1,k2⟩:Bn e1 h1;rintro⟨b,ys,rfl,k3,k4⟩:Bn e2 h2;cases rx;cases ry;exact Po hK hw hu I k1 k3 k2 k4 hc.1 hc.2
theorem bh(hK:W.K=X.K)(hw:W.w=X.w)(hu:X.A.units + 200 < cLine):BG X (compareOp .Eq) (AV W Bd):=by
 rintro p0 s Y H x y v u Q I rx ry ⟨c1,c2,c,h1,h2,e,q⟩
 rintro⟨t,et,rfl⟩:AU e;exact(Q9 hK hw hu I rx ry h1 h2 et).1 X.prog X.w _ _ #[.bl t,H,I,rfl,q.bl]
theorem aY(hK:W.K=X.K)(hw:W.w=X.w)(hu:X.A.units + 200 < cLine):BG X (compareOp .NotEq) (AV W Em):=by
 rintro p0 s Y H x y v u Q I rx ry ⟨c1,c2,c,h1,h2,e,q⟩
 rintro⟨t,et,rfl⟩:AU e;exact(Q9 hK hw hu I rx ry h1 h2 et).2 X.prog X.w _ _ #[.bl (!t),H,I,rfl,q.bl]
theorem Sh{f:Value->Value->Sem Value}{b:Int->Int->Bool}{r:R2}(ho:BG X f r)(hr:∀i j H Q,Q (.bl (b i j)) H->r (.int i) (.int j) H Q):BG X f (AV W λa c=>a.int?.bind λi=>c.int?.map λj=>bC (b i j)):=by
 rintro p0 s Y H x y v u Q I rx ry ⟨c1,c2,c,h1,h2,e,q⟩
 rintro⟨i,ei,e⟩:Ab e;rintro⟨j,ej,rfl⟩:AU e;cases C.AW ei;cases C.AW ej;cases AZ h1;cases AZ h2;exact ho p0 s Y H _ _ v u Q I rx ry (hr i j H Q q.bl)
theorem aZ:BG X (compareOp .Lt) (AV W L4):=Sh YV λi j H Q q=>#[i,j,rfl,rfl,q]
theorem bf:BG X (compareOp .Gt) (AV W Nr):=Sh YX λi j H Q q=>#[i,j,rfl,rfl,q]
theorem bg:BG X (compareOp .GtE) (AV W Zu):=Sh YY λi j H Q q=>#[i,j,rfl,rfl,q]
theorem Na(a b:List Nat):decide (a<=b)= !decide (b < a):=by
 by_cases h:b < a
 .have:¬a<=b:=λz=>not_lt.mpr z h
  simp[h,this]
 .have:a<=b:=not_lt.mp h;simp[h,this]
theorem b7:BG X (compareOp .LtE) (AV W L8):=by
 refine BG.or (Sh YW λi j H Q q=>#[i,j,rfl,rfl,q]) ?_
 rintro p0 s Y H x y v u Q I rx ry ⟨c1,c2,c,h1,h2,e,q⟩
 rintro⟨i,ei,e⟩:Ab e;rintro⟨j,ej,rfl⟩:AU e;cases C.Bt ei;cases C.Bt ej;cases BI h1;cases BI h2;refine N2 p0 s Y H _ _ v u Q I rx ry #[_,_,rfl,rfl,?_];have:=q.bl;rw[Na]at this;exact this
theorem Gi{c:C} :Dj W H c x->c.Wm=decide (x= .AG):=by
 intro h;cases c with
 |lst o ps=>rintro⟨_,_,rfl,_⟩:h;rfl
 |Bl o ps=>rintro⟨_,_,rfl,_⟩:h;rfl
 |obj o ps=>rintro⟨_,_,_,rfl,_⟩:h;rfl
 |p p=>
   cases p with
   |AG=>rw[Gj h];rfl
   |bl _=>rw[Eg h];rfl
   |int _=>rw[AZ h];rfl
   |str _=>rw[BI h];rfl
   |fn _ _=>rintro⟨a,_,rfl⟩:FW.mp (GW h);rfl
   |tup _=>rintro⟨_,_,rfl,_⟩:CH h;rfl
   |box _ _=>rintro⟨_,_,rfl,_⟩:CN.mp (GW h);rfl
theorem ba:BG X (compareOp .Is) (AV W Ft):=by
 rintro p0 s Y H x y v u Q I rx ry ⟨c1,c2,c,h1,h2,e,q⟩
 rintro⟨p,ep,e⟩:Ab e;rintro⟨rfl,rfl⟩:A3 e;cases C.BO ep;cases Gj h2;have:=q.bl;rw[Gi h1]at this;exact Wc p0 s Y H _ _ v u Q I rx ry #[rfl,this]
theorem Z6:BG X (compareOp .IsNot) (AV W E5):=by
 rintro p0 s Y H x y v u Q I rx ry ⟨c1,c2,c,h1,h2,e,q⟩
 rintro⟨p,ep,e⟩:Ab e;rintro⟨rfl,rfl⟩:A3 e;cases C.BO ep;cases Gj h2;have:=q.bl;rw[Gi h1]at this;exact S7 p0 s Y H _ _ v u Q I rx ry #[rfl,this]
def Ml(x:Str):Value->Bool
 |.str z _=>z == x
 |_=>false
theorem D3:∀{ps:List P} {xs:List Str} {vs:List V} {us:List Value},Cv P.BN ps=some xs->Cw W H ps vs->Vals vs us->Paired (λz u=>∃t,u= .str z t) xs us
 |[],xs,vs,us,e,h,r=>by cases e;cases h;cases r;exact .nil
 | p ::ps,xs,vs,us,e,h,r=>by
   rintro⟨z,e1,e⟩:Ab e;rintro⟨zs,e2,rfl⟩:AU e;cases P.Bt e1;cases h with
   |cons h1 h2=>
     cases AJ.mp h1;cases r with
     |cons r1 r2=>exact .cons r1 (D3 e2 h2 r2)
theorem ME{xs:List Str}(h:Paired (λz u=>∃t,u=Value.str z t) xs us):us.any (Ml x)=xs.contains x:=by
 induction h with
 |nil=>rfl
 |cons h1 _ ih=>
   rintro⟨t,rfl⟩:h1;rw[any_cons,List.contains_cons,ih]
   congr 1
   exact BEq.comm
theorem Lu{t:Tok}{A:Around}{xs:List Str}(h:Paired (λz u=>∃t,u=Value.str z t) xs us):∀y∈us,SeqAt.EqAt A s y (.str x t) (Ml x y):=by
 induction h with
 |nil=>intro y hy;cases hy
 |cons h1 _ ih=>
   intro y hy;rintro⟨t,rfl⟩:h1;rcases mem_cons.mp hy with rfl|hy
   .exact SeqAt.EqAt.str_str _ _ _ _
   .exact ih y hy
theorem WV(hK:W.K=X.K){Y:L2.St}{t:Bool}{Q:VK}(I:∅)(rx:RelV x v)(ry:RelV y u)(h1:Dj W H c1 x)(h2:Dj W H c2 y)(e:cY c1 c2=some t):
 (Q (.bl t) H->(X|||(compareOp .In v u)) (EP X p0 Y Q) X.xe s)/\(Q (.bl (!t)) H->(X|||(compareOp .NotIn v u)) (EP X p0 Y Q) X.xe s):=by
 rintro⟨z,e1,e⟩:Ab e;rintro⟨ps,e2,e⟩:Ab e;rintro⟨xs,e3,rfl⟩:AU e;cases C.Bt e1;cases BI h1;rintro⟨tk,rfl⟩:rx;rintro⟨a,vs,rfl,k1,k2⟩:ES e2 h2;cases ry;rcases k1 with k1|k1
 .obtain⟨its,r,pl,hz⟩:=I.list (hK▸k1);have hp:=D3 e3 k2 r;have an:its.toArray.any (Ml z)=xs.contains z:=by rw[<-ME hp];simp
  have hm:∀y,y∈its.toArray->SeqAt.EqAt X.A.in1 s y (.str z tk) (Ml z y):=λy hy=>Lu hp y (by simpa using hy)
  exact#[λq=>SeqAt.in_listAt (Ml z) pl.isList hm #[.bl _,H,I,rfl,by rw[an];exact q],λq=>SeqAt.notIn_listAt (Ml z) pl.isList hm #[.bl _,H,I,rfl,by rw[an];exact q]]
 .obtain⟨its,r,pl,hz⟩:=I.tuple (hK▸k1);have hp:=D3 e3 k2 r;have an:its.toArray.any (Ml z)=xs.contains z:=by rw[<-ME hp];simp
  have hm:∀y,y∈its.toArray->SeqAt.EqAt X.A.in1 s y (.str z tk) (Ml z y):=λy hy=>Lu hp y (by simpa using hy)
  exact#[λq=>SeqAt.in_tupleAt (Ml z) pl hm #[.bl _,H,I,rfl,by rw[an];exact q],λq=>SeqAt.notIn_tupleAt (Ml z) pl hm #[.bl _,H,I,rfl,by rw[an];exact q]]
section
open PySem.Builtin.Str
def bT(v:Option Int)(n d:Int):Int:=match v with|none=>d|some i=>max 0 (min (if i < 0 then i+n else i) n)
theorem Qp(n d:Nat)(v:Option Int):bT v n d=(DS n d v:Nat):=by
 cases v with
 |none=>rfl
 |some i=>show max 0 (min (if i < 0 then i+(n:Int)else i) (n:Int))=((if i < 0 then(i+n).toNat else min i.toNat n:Nat):Int);split<;>lia
theorem idx_eq(lo hi:Option Int)(n:Nat):strSliceIndices lo hi 1 n=(List.range (DS n n hi - DS n 0 lo)).map (λk=>DS n 0 lo + k):=by
 show sliceRange (bT lo n 0) (bT hi n n) 1=_;have h1:=Qp n 0 lo;have h2:=Qp n n hi;rw[show((0:Nat):Int)=0 from rfl]at h1;rw[h1,h2];unfold sliceRange;simp only[show(1:Int) > 0 by decide,if_true]
 congr 1
 .funext k;lia
 .congr 1;split<;>lia
theorem Mo{α:Type}(xs:List α)(a:Nat):∀m:Nat,((List.range m).map (λk=>a + k)).filterMap (xs[·]?)=(xs.drop a).take m
 |0=>rfl
 | m + 1=>by
   rw[range_succ,map_append,List.filterMap_append,Mo xs a m,take_add_one]
   congr 1
   rw[List.getElem?_drop];show List.filterMap _ [a+m]=_;rw[filterMap_cons];cases xs[a+m]?<;>rfl
theorem MV(x:Str)(lo hi:Option Int):Txt.slice x lo hi=#[(cut x.cps.toList lo hi).toArray]:=by
 have hn:x.cps.toList.length=x.length:=by simp[Str.length]
 have key:((strSliceIndices lo hi 1 x.length).filterMap (x.cps[·]?))=cut x.cps.toList lo hi:=by
  rw[idx_eq,show(λi:Nat=>x.cps[i]?)=(λi:Nat=>x.cps.toList[i]?)by funext i;simp,Mo];unfold cut;rw[hn]
 unfold Txt.slice;split
 .rename_i h;have hl:(strSliceIndices lo hi 1 x.length).length=x.length:=by simpa using h
  rw[idx_eq,lM,length_range]at hl;have h1:DS x.length x.length hi<=x.length:=by cases hi<;>simp[DS];split<;>lia
  by_cases h0:x.length=0
  .have e0:x.cps.toList=[]:=List.eq_nil_of_length_eq_zero (by rw[hn];exact h0);rw[e0];rintro⟨c⟩:x;rw[show c= [].toArray from Array.toList_inj.mp e0];simp[cut]
  have h2:DS x.length 0 lo=0/\DS x.length x.length hi-DS x.length 0 lo=x.length:=by lia
  unfold cut;rw[hn,h2.2,h2.1,drop_zero,take_of_length_le (by rw[hn];exact Nat.le_refl _)]
 .rw[key]
end
section
variable{ct:Ct}{k:Nat}
theorem Y9:Hj X (unaryOp .USub) (BZ W (Hc N5)):=by
 rintro p0 s Y H x v Q I rx ⟨c1,c,h1,e,q⟩
 rintro⟨i,ei,e⟩:Ab e;rintro⟨p,ep,rfl⟩:AU e;cases ep;cases C.AW ei;cases AZ h1;exact UY p0 s Y H _ v Q I rx #[i,rfl,q.int]
theorem Zn(hK:W.K=X.K):QK X (AV W Ae):=by
 rintro value slice p0 s Y H x y v u Q I rx ry ⟨c1,c2,c,h1,h2,e,q⟩ hs
 rintro⟨ps,e1,e⟩:Ab e;rintro⟨i,ei,e⟩:Ab e;rintro⟨j,ej,e⟩:Ab e;rintro⟨p,ep,rfl⟩:AU e;cases C.AW ei;cases AZ h2;refine WO value slice p0 s Y H x _ v u Q I rx ry ?_ hs;rcases or_some e1 with e1|e1
 .obtain⟨a,vs,rfl,k1,k2⟩:=ES e1 h1;rintro⟨w,ew,rw'⟩:Pd.get k2 ep
  have at':XJ vs i=some w:=by
   show(L2.II vs.length i).bind _=_;rw[<-Paired.length k2,show L2.II ps.length i=some j from ej];exact ew
  rcases k1 with k1|k1
  .exact .inl #[a,vs,i,w,rfl,rfl,hK▸k1,at',q.plain rw']
  .exact .inr (.inl #[a,vs,i,w,rfl,rfl,hK▸k1,at',q.plain rw'])
 .obtain⟨z,ez,e1⟩:=Ab e1;rintro⟨hl,rfl⟩:A3 e1;cases C.Bt ez;cases BI h1;rintro⟨ch,ec,rfl⟩:oM (show(z.cps.toList[j]?).map sign=some p by rw[<-List.getElem?_map];exact ep);refine .inr (.inr #[z,i,ch,rfl,rfl,Nat.le_trans hl Bw,?_,q.str]);show(L2.II z.cps.toList.length i).bind _=_;rw[show L2.II z.cps.toList.length i=some j by rw[show z.cps.toList.length=(z.cps.toList.map sign).length from by simp];exact ej];exact ec
theorem G3(n d:Nat)(o:Option Int):DS n d o=HT.BD n d o:=by cases o<;>rfl
variable{H:Hp}
theorem Ms{ps:List P}{vs:List V}(h:Cw W H ps vs)(lo hi:Option Int):Cw W H (cut ps lo hi) (K9 vs lo hi):=by
 unfold cut K9;rw[G3,G3,Paired.length h];exact Pd.take _ (Pd.drop _ h)
theorem Yy(hK:W.K=X.K):Xn X (λx lo hi H Q=>∃c r,Dj W H c x/\Jy lo hi c=some r/\Cc W H r Q):=by
 rintro p0 s Y H x v vl vu lo hi sl Q I rx hs pl pu ⟨c,r,h1,e,q⟩
 rcases or_some e with e|e
 .obtain⟨ps,e1,rfl⟩:=AU e;rintro⟨a,vs,rfl,k1,k2⟩:Bn e1 h1;exact RB p0 s Y H _ v vl vu lo hi sl Q I rx hs pl pu #[a,vs,rfl,.inl k1,q.list (Ms k2 lo hi)]
 rcases or_some e with e|e
 .obtain⟨ps,e1,rfl⟩:=AU e;cases C.Bs e1;rintro⟨a,vs,rfl,k1,k2⟩:CH h1
  by_cases hw:HT.BD vs.length 0 lo=0/\HT.BD vs.length vs.length hi=vs.length
  .refine RA p0 s Y H _ v vl vu lo hi sl Q I rx hs pl pu #[a,vs,rfl,hK▸k1,hw,?_]
   have e:cut ps lo hi=ps:=by
    unfold cut;rw[G3,G3,Paired.length k2,hw.1,hw.2,<-Paired.length k2];simp
   rw[e]at q;exact q.plain (GW h1)
  .exact Vo p0 s Y H _ v vl vu lo hi sl Q I rx hs pl pu #[a,vs,rfl,hK▸k1,hw,q.tup (Ms k2 lo hi)]
 .obtain⟨z,ez,e⟩:=Ab e;rintro⟨⟨_,hl⟩,rfl⟩:A3 e;cases C.Bt ez;cases BI h1;refine Vp p0 s Y H _ v vl vu lo hi sl Q I rx hs pl pu #[z,rfl,Nat.le_trans hl Bw,?_];rw[MV];exact q.str
theorem Qs:bootBuiltins "len"=some (.builtin "len"):=by decide +kernel
theorem Xg:bootBuiltins "isinstance"=some (.builtin "isinstance"):=by decide +kernel
theorem Xj:bootBuiltins "all"=some (.builtin "all"):=by decide +kernel
theorem Xk:bootBuiltins "abs"=some (.builtin "abs"):=by decide +kernel
theorem J5:bootBuiltins "list"=some (.type "list"):=by decide +kernel
theorem Ki:bootBuiltins "tuple"=some (.type "tuple"):=by decide +kernel
theorem Xh:bootBuiltins "int"=some (.type "int"):=by decide +kernel
theorem Tv:bootBuiltins "bool"=some (.type "bool"):=by decide +kernel
theorem Xc:bootBuiltins "str"=some (.type "str"):=by decide +kernel
def aX(r:V->Hp->VK->Prop):List V->Hp->VK->Prop
 |[v],H,Q=>r v H Q
 |_,_,_=>False
theorem G4{r:V->Hp->VK->Prop}(h:Hj X (λv=>call f [v]) r):Dh X f (aX r):=by
 intro p0 s Y H xs us Q I rs q;cases rs with
 |nil=>exact q.elim
 |cons r1 r2=>
   cases r2 with
   |nil=>exact h p0 s Y H _ _ Q I r1 q
   |cons _ _=>exact q.elim
variable{id:String}{pos:Pos}{te:TE}
theorem T3(L:Bb ct X W cf k){g:C->Option C}(hc:Hj X (λv=>call (.builtin id) [v]) (BZ W g))(ho:ct.own x=true)(hv:bootBuiltins x=some (.builtin id))(hp:A7 e=true)(he:PE X e te):PE X (.Call (.Name x p) [e] [] pos) (λY H Q=>te Y H λv H1=>BZ W g v H1 Q):=by
 rintro⟨g1,g2,g3,g4⟩:L.ET ho;exact Ai (Dq (G4 hc) g1 g2 hv (AB he Bv (A2 hp [] _)) g4 g3 (A2 hp [] _) rfl) λY H Q z=>z
theorem Zy(L:Bb ct X W cf k){g:C->Option C}(hc:Hj X (λv=>call (.type id) [v]) (BZ W g))(ho:ct.own x=true)(hv:bootBuiltins x=some (.type id))(hp:A7 e=true)(he:PE X e te):PE X (.Call (.Name x p) [e] [] pos) (λY H Q=>te Y H λv H1=>BZ W g v H1 Q):=by
 rintro⟨g1,g2,g3,g4⟩:L.ET ho;exact Ai (Hv (G4 hc) g1 g2 hv (AB he Bv (A2 hp [] _)) g4 g3 (A2 hp [] _) rfl) λY H Q z=>z
theorem Ya(hK:W.K=X.K):Hj X (λv=>call (.builtin "len") [v]) (BZ W AD):=by
 rintro p0 s Y H x v Q I rx ⟨c1,c,h1,e,q⟩
 rintro⟨ps,e1,rfl⟩:AU e;rcases or_some e1 with e1|e1
 .obtain⟨a,vs,rfl,k1,k2⟩:=ES e1 h1;rw[Paired.length k2]at q;exact J3 p0 s Y H [.ref a] [v] Q I (.cons rx .nil) #[a,vs,rfl,hK▸k1,q.int]
 .obtain⟨z,ez,e1⟩:=Ab e1;rintro⟨hl,rfl⟩:A3 e1;cases C.Bt ez;cases BI h1;rw[show(signs z).length=z.length by simp[signs,Str.length]]at q;exact J2 p0 s Y H [.str z] [v] Q I (.cons rx .nil) #[z,rfl,Nat.le_trans hl Bw,q.int]
theorem Y5(hK:W.K=X.K):Hj X (λv=>call (.type "tuple") [v]) (BZ W Jm):=by
 rintro p0 s Y H x v Q I rx ⟨c1,c,h1,e,q⟩
 rintro⟨ps,e1,rfl⟩:AU e;rintro⟨a,vs,rfl,k1,k2⟩:ES e1 h1;refine Hi p0 s Y H [.ref a] [v] Q I (.cons rx .nil) #[a,vs,rfl,?_];rcases k1 with k1|k1
 .exact .inl #[hK▸k1,q.tup k2]
 .exact .inr #[hK▸k1,q.plain (A9.mpr #[a,vs,rfl,k1,k2])]
theorem Qw:∀{ps:List P} {bs:List Bool} {vs:List V},Cv P.EL ps=some bs->Cw W H ps vs->vs=bs.map V.bl
 |[],bs,vs,e,h=>by cases e;cases h;rfl
 | p::ps,bs,vs,e,h=>by
   rintro⟨z,e1,e⟩:Ab e;rintro⟨zs,e2,rfl⟩:AU e;cases P.Fz e1;cases h with
   |cons h1 h2=>cases Cz.mp h1;rw[Qw e2 h2];rfl
theorem Yc(hc:X.calm=true):Hj X (λv=>call (.builtin "all") [v]) (BZ W Fc):=by
 rintro p0 s Y H x v Q I rx ⟨c1,c,h1,e,q⟩
 rintro⟨ps,e1,e⟩:Ab e;rintro⟨bs,e2,rfl⟩:AU e;rintro⟨a,vs,rfl,k1,k2⟩:Bn e1 h1;cases Qw e2 k2;exact Ke hc p0 s Y H [.ref a] [v] Q I (.cons rx .nil) #[a,bs,rfl,.inl k1,q.bl]
theorem Yd:Hj X (λv=>call (.builtin "abs") [v]) (BZ W (Hc TJ)):=by
 rintro p0 s Y H x v Q I rx ⟨c1,c,h1,e,q⟩
 rintro⟨i,ei,e⟩:Ab e;rintro⟨p,ep,rfl⟩:AU e;cases ep;cases C.AW ei;cases AZ h1;exact Qq p0 s Y H [.int i] [v] Q I (.cons rx .nil) #[i,rfl,q.int]
theorem KD{x:Str}{acc:Array Value}(h:ItemsOf (SignAt x) acc x.cps.size):∃vs,Vals vs acc.toList/\∀{W:Wd} {H:Hp},Cw W H (signs x) vs:=by
 have gen:∀(l:List Nat) (us:List Value),us.length=l.length->(∀(j:Nat) (u:Value),us[j]? =some u->∃(c:Nat) (t:Tok),l[j]? =some c/\u=Value.str #[[c].toArray] t)->Vals (l.map λc=>V.str #[[c].toArray]) us/\∀{W:Wd} {H:Hp},Cw W H (l.map sign) (l.map λc=>V.str #[[c].toArray]):=by
  intro l
  induction l with
  |nil=>intro us hl _;cases List.eq_nil_of_length_eq_zero hl;exact#[.nil,.nil]
  |cons c l ih=>
    intro us hl hu;cases us with
    |nil=>cases hl
    |cons u us=>
      rintro⟨i1,i2⟩:ih us (by simpa using hl) λj u hj=>hu (j+1) u hj
      rintro⟨c',t,e1,rfl⟩:hu 0 u rfl;cases e1;exact#[.cons #[t,rfl] i1,.cons (AJ.mpr rfl) i2]
 rintro⟨g1,g2⟩:gen x.cps.toList acc.toList (by simp[h.1]) λj u hj=>by
  rintro⟨c,t,e1,e2⟩:h.2 j u (by simpa using hj);exact#[c,t,by simpa using e1,e2]
 exact#[_,g1,g2]
theorem R7(hc:X.calm=true){p0:Oa}{s:Shared}{Y:L2.St}{z:Str}{Q:VK}(I:∅)(rx:RelV (.str z) v)(hl:z.length<=big)(q:Cc W H (nw (signs z)) Q):(X|||(call (.type "list") [v])) (EP X p0 Y Q) X.xe s:=by
 rintro⟨t,rfl⟩:rx;refine call_list_str (I.ok.hd hc) z t (λh' tk acc c' kp e hi=>?_) (Nat.le_trans hl Bw);rintro⟨vs,r1,r2⟩:KD hi;refine#[.ref s.heap.objs.size,_,I.laid (t':=tk) (o:=.lst vs) kp (Nat.le_refl _) #[?_,acc.toList,c',r1,by rw[e]],rfl,q.list r2 _ (I.Aj.fresh (Nat.le_refl _))];have:=Vals.length r1;have h2:=hi.1;have:=Bw;have e3:acc.toList.length=z.length:=by simp[h2,Str.length]
 lia
end
section
variable{ct:Ct}{k:Nat}
theorem Pd.He{α β:Type}{F:α->β->Prop}{xs:List α}{ys:List β}{i:Nat}{y:β}(h:Paired F xs ys)(e:ys[i]? =some y):∃x,xs[i]? =some x/\F x y:=by
 rintro⟨x,h1,h2⟩:Pd.get (Pd.flip h) e;exact#[x,h1,h2]
theorem Ji{L:Frag->Hp->Addr->List V->Prop}{ps:List P}(hL:∀H,Dj W H c (.ref a)->∃vs,L W.K H a vs/\Cw W H ps vs):
 Walk W #[λi H=>∃xs x,L W.K H a xs/\xs[i]? =some x,λi H x H'=>H'=H/\∀xs,L W.K H a xs->xs[i]? =some x,λi H=>∃xs,L W.K H a xs/\xs.length<=i] ps (λH=>Dj W H c (.ref a)) where
 go:=λi H h hi=>by
   rintro⟨vs,h1,h2⟩:hL H h;rintro⟨v,h3,_⟩:Pd.get h2 (List.getElem?_eq_getElem hi);exact#[vs,v,h1,h3]
 LN:=λi H x H' h hi hy=>by
  rintro⟨vs,h1,h2⟩:hL H h;rintro⟨rfl,hy⟩:hy;rintro⟨p,h3,h4⟩:Pd.He h2 (hy vs h1);exact#[Dc.refl _,p,h3,h4]
 stop:=λH h=>by
  rintro⟨vs,h1,h2⟩:hL H h;exact#[vs,h1,by rw[Paired.length h2];exact Nat.le_refl _]
theorem NQ{g:Hp->Prop}:Walk W (dz y) (signs y) g where
 go:=λi H _ hi=>by
   show i < y.length;simpa[signs,Str.length]using hi
 LN:=λi H x H' _ hi hy=>by
  rintro⟨rfl,c,e,rfl⟩:hy;refine#[Dc.refl _,sign c,?_,AJ.mpr rfl];show(y.cps.toList.map sign)[i]? =_;rw[List.getElem?_map,Array.getElem?_toList,e];rfl
 stop:=λH _=>by
  show y.length<=_;simp[signs,Str.length]
variable{H:Hp}
theorem M4{c:C}{ps:List P}(e:c.FH =some ps)(h:Dj W H c (.ref a)):∃vs,DO W.K H a vs/\Cw W H ps vs:=by
 rintro⟨b,vs,eb,h1,h2⟩:Bn e h;cases eb;exact#[vs,.inl h1,h2]
theorem RM{c:C}{ps:List P}(e:c.CL =some ps)(h:Dj W H c (.ref a)):∃vs,D1 W.K H a vs/\Cw W H ps vs:=by
 cases C.Bs e;rintro⟨b,vs,eb,h1,h2⟩:CH h;cases eb;exact#[vs,h1,h2]
theorem S0(L:Bb ct X W cf k){tg:Expr}{tl:TE}(hl:PE X l tl):PI X tg l (wI W AM tl):=by
 intro p0 s Y H R I h;refine AS (hl p0 s Y H _ I h) λv s1 ⟨x,H1,I1,r1,c,ps,hc,ek,q⟩=>?_
 have fp:∀b∈[s1.heap.objs.size],Fe X p0 H1 b:=λb hb=>by
  rw[mE hb];exact I1.Ll (Nat.le_refl _) (I1.Aj.fresh (Nat.le_refl _))
 rcases or_some ek with e|e
 .rcases or_some e with e|e
  .obtain⟨a,vs,rfl,k1,k2⟩:=Bn e hc;cases r1;rintro⟨its,rv,p,hz⟩:I1.list (.inl k1);have w:=Ji (W:=W) (L:=DO) (a:=a) (c:=c) (ps:=ps) λH h=>M4 e h
   rw[L.K]at w;exact wpAny_pyIter_list p.isList #[s1.heap.objs.size,[s1.heap.objs.size],_,_,H1,rfl,I1.kept (t':=s1.toks) λb o e=>gP e,MN a _,#[_,Heap.get?_push_size _ rfl,rfl,rfl],fp,q _ w]
  .cases C.Bs e;rintro⟨a,vs,rfl,k1,k2⟩:CH hc;cases r1;rintro⟨its,rv,p,hz⟩:I1.tuple (L.K▸k1);have w:=Ji (W:=W) (L:=D1) (a:=a) (c:=.p (.tup ps)) (ps:=ps) λH h=>RM e h
   rw[L.K]at w;exact wpAny_pyIter_tuple (show s1.heap.IsTuple a its.toArray from p) #[s1.heap.objs.size,[s1.heap.objs.size],_,_,H1,rfl,I1.kept (t':=s1.toks) λb o e=>gP e,Kv a _,#[_,Heap.get?_push_size _ rfl,rfl,rfl],fp,q _ w]
 .obtain⟨qs,f1,f2⟩:=Ab e;rintro⟨ha,rfl⟩:A3 f2;rintro⟨z,ez,f3⟩:Ab (show(c.BN.bind λx=>if x.length<=big then some (signs x)else none)=some qs from f1);rintro⟨hl,rfl⟩:A3 f3;cases C.Bt ez;cases BI hc;rintro⟨t,rfl⟩:r1;have ha:z.cps.all (· < 128)=true:=ha;exact wpAny_pyIter_ascii ha #[s1.heap.objs.size,[s1.heap.objs.size],_,_,H1,rfl,I1.kept (t':=s1.toks) λb o e=>gP e,NU _ z t,#[_,Heap.get?_push_size _ rfl,rfl,rfl],fp,q _ NQ]
theorem NR{n:Int}{g:Hp->Prop}:Walk W (aq 0 n.toNat) (Az 0 n) g where
 go:=λi H _ hi=>by
   show i < n.toNat;simpa[Az]using hi
 LN:=λi H x H' _ hi hy=>by
  rintro⟨rfl,rfl⟩:hy;refine#[Dc.refl _,_,?_,Aa.mpr rfl];have hi:i < n.toNat:=by simpa[Az]using hi
  simp[Az,hi]
 stop:=λH _=>by
  show n.toNat<=_;simp[Az]
def Sb(r:V->Hp->Prop):List V->Hp->Prop
 |[v],H=>r v H
 |_,_=>False
theorem IB{r:V->Hp->Prop}{vs:List V}(h:Sb r vs H):∃v,vs=[v]/\r v H:=by
 rcases vs with _|⟨v,_|⟨_,_⟩⟩
 .exact h.elim
 .exact#[v,rfl,h]
 .exact h.elim
variable{pos:Pos}{ta:TE}
theorem VZ(L:Bb ct X W cf k){tg:Expr}(ho:ct.own x=true)(hx:x="range")(st:A7 a=true)(ha:PE X a ta):PI X tg (.Call (.Name x p) [a] [] pos) (wI W DP ta):=by
 subst hx;rintro⟨g1,g2,g3,g4⟩:L.ET ho;intro p0 s Y H R I h;refine Call_ (CJ I g1 g2 boot_range (PyProof.Rows.callWith_type1 (AS ((AB ha Bv (A2 st [] _)) pos p0 s Y H (Sb λv H1=>∃c xs,Dj W H1 c v/\DP c=some xs/\∀J,Walk W J xs (λH=>Dj W H c v)->R J H1) I h) λus s1 ⟨vs,H1,I1,r1,q1⟩=>?_) (A2 st [] _) rfl));rintro⟨v,rfl,q1⟩:IB q1
 .obtain⟨c,ps,hc,ek,q⟩:=q1;rintro⟨n,en,ek⟩:Ab ek;rintro⟨hn,rfl⟩:A3 ek;cases C.AW en;cases AZ hc;cases r1 with
  |cons r rr=>
    cases rr;rintro⟨t,rfl⟩:r;have:=q _ NR;exact call_range_1 (JC I1 (by lia) (by lia) (by lia) (by lia) (by simpa using this))
def dB(K:Frag)(l:Addr):It:=
 #[λi H=>∃xs x,DO K H l xs/\xs[i]? =some x,λi H x H'=>∃p y,x= .ref p/\H p=none/\H'=upd H p (.tup [.int i,y])/\∀xs,DO K H l xs->xs[i]? =some y,λi H=>∃xs,DO K H l xs/\xs.length<=i]
theorem SR{p0:Oa}{Y:L2.St}{s:Shared}{h':Heap}{t':Nat}{e it:Addr}{o:HO}(I:∅)(k:∀b o,b≠e->b≠it->s.heap.get? b=some o->h'.get? b=some o)
 (c1:H e=none/\e≠X.env.locals/\(e∈X.ex\/X.s₀.heap.objs.size<=e)/\(∀x c,X.env.cells.lookup x=some c->c≠e)/\∀p∈X.pn++p0,p.1≠e)
 (c2:H it=none/\it≠X.env.locals/\(it∈X.ex\/X.s₀.heap.objs.size<=it)/\(∀x c,X.env.cells.lookup x=some c->c≠it)/\∀p∈X.pn++p0,p.1≠it)
 (new:Br X.prog X.w (upd H s.heap.objs.size o) h' s.heap.objs.size o):Inv X p0 Y (upd H s.heap.objs.size o) {s with heap:=h',toks:=t'}:=by
 have fr:=I.Aj.fresh (Nat.le_refl s.heap.objs.size);have nit:∀b u,H b=some u->b≠e/\b≠it:=λb u q=>#[λz=>(by rw[z,c1.1]at q;cases q),λz=>(by rw[z,c2.1]at q;cases q)]
 have nf:∀b u,H b=some u->upd H s.heap.objs.size o b=some u:=λb u q=>by rw[A4 (AI q fr)];exact q
 have kk:∀b o,b∉[e,it]->s.heap.get? b=some o->h'.get? b=some o:=λb o hc q=>k b o (λz=>hc (by simp[z])) (λz=>hc (by simp[z])) q
 refine I.step (g':=s.gens) (d':=s.drawn) (ch:=[e,it]) (λb hb=>?_) (λb o _ _ hc q _=>kk b o hc q) (λb o _ _ hc q _=>#[o.slots,kk b o hc q]) (λb o' _ q n=>by rw[A4 (Nat.ne_of_lt (hZ q))];exact n)
  (λb o hc q=>#[o,kk b o hc q]) (λ_ _ q=>nf _ _ q) (λ_ _ _ q=>nf _ _ q) (λb ps q=>#[[].toArray,by rw[nf _ _ q];simp]) (λm hm=>?_) (λb u q=>?_) I.bare
 .rcases mem_cons.mp hb with rfl|hb
  .exact#[c1.2.2.1,c1.2.1,c1.2.2.2]
  .cases mE hb;exact#[c2.2.2.1,c2.2.1,c2.2.2.2]
 .obtain⟨o,es,ep,ho,r⟩:=hm;exact#[o,es,ep,k _ o (Ne.symm c1.2.1) (Ne.symm c2.2.1) ho,r]
 .by_cases hb:b=s.heap.objs.size
  .subst hb;rw[A6]at q;cases q;exact new
  .rw[A4 hb]at q;refine(I.Aj b u q).GZ (λc v hc z=>?_) (λc z=>nf _ _ z) λ_ _ z=>nf _ _ z
   rcases hc with y|y
   .rw[y]at z ⊢;exact k b v (nit b u q).1 (nit b u q).2 z
   .exact k c v (nit c _ y).1 (nit c _ y).2 z
theorem MO{P:Program}{w:World}{K:Frag}{es:List Expr}{n:Nat}{tp:Pos}(l it e:Addr)(hne:e≠it):Turn P w K (.Tuple es n tp) (dB K l) [e,it] e (λi h=>(∃old,IsEnum h e it i old)/\h.IsListIter it l i) where
 mem:=by simp
 obj :=λi h st b hb=>by
  rintro⟨⟨old,h1⟩,o,h2,c,d⟩:st;rcases mem_cons.mp hb with rfl|hb
  .exact#[_,h1,λv z=>by cases z]
  .cases mE hb;exact#[o,h2,λv z=>by rw[d]at z;cases z]
 keep:=λi h h' st k=>#[st.1.imp λold h1=>k e (by simp) _ h1,st.2.at λo q=>k it (by simp) o q]
 item:=by
  intro X hP hw hK hc i p0 s Y H E I hf st hg;subst hP hw hK;rintro⟨xs,x,hq,hx⟩:hg;rintro⟨its,rv,p,hz⟩:I.list hq;rintro⟨u,hu,ru⟩:rv.get hx;rintro⟨⟨old,h1⟩,h2⟩:st;refine wpAny_pyNext_enum_item h1 h2 p.isList (x:=u) (by simpa using hu) hne λh' a1 a2 a3 a4 a5=>#[_,rfl,?_]
  refine wpAny_letOwnedTupleGo_enum (s:={s with heap:=h',toks:=s.toks+1}) a1 λh3 b1 b2=>?_
  rintro⟨f0,f1,f2,f3,f4,f5⟩:hf e (by simp);rintro⟨g0,g1,g2,g3,g4,g5⟩:hf it (by simp);have I2:Inv X p0 Y (upd H s.heap.objs.size (.tup [.int i,x])) {s with heap:=h3,toks:=s.toks+1}:=SR I (λb o n1 n2 q=>b2.extBut b o n1 (a5 b o n1 n2 q)) #[f0,f1,f3,f4,f5] #[g0,g1,g3,g4,g5] #[by simp[sizeLine],[.int i s.toks,u],.cons #[_,rfl] (.cons ru .nil),_,b2.extBut _ _ (Nat.ne_of_gt (hZ h1)) a3,rfl,_,rfl];have fr:=I.Aj.fresh (Nat.le_refl s.heap.objs.size);have hit:it < s.heap.objs.size:=by rintro⟨o,q,_⟩:id h2;exact hZ q
  refine#[.ref s.heap.objs.size,_,I2,rfl,#[_,x,rfl,fr,rfl,λys hy=>by rw[I.JR hy hq];exact hx],#[#[u,b1],a2.extBut b2.extBut (Ne.symm hne)],λb hb=>?_]
  have:b≠s.heap.objs.size:=by
   rcases mem_cons.mp hb with rfl|hb
   .exact Nat.ne_of_lt (hZ h1)
   .rw[mE hb];exact Nat.ne_of_lt hit
  rw[A4 this];exact(hf b hb).1
 done:=by
  intro X hP hw hK hc i p0 s Y H E I hf st hg;subst hP hw hK;rintro⟨xs,hq,hx⟩:hg;rintro⟨its,rv,p,hz⟩:I.list hq;rintro⟨⟨old,h1⟩,h2⟩:st;rintro⟨f0,f1,f2,f3,f4,f5⟩:hf it (by simp);have hl:=rv.length;exact wpAny_pyNext_enum_end (I.ok.hd hc) h1 h2 p.isList (by simp;lia) λh' eb=>#[rfl,I.turned (t':=s.toks) (λb o hb e=>eb b o hb e) f0 f1 f3 f4 f5]
 self:=λ_ _ _ _ _ st h=>let⟨⟨_,h1⟩,_⟩:=st;wpAny_pyIter_enum h1 h
theorem Qb{ps:List P}{i:Nat}{p:P}(h:ps[i]? =some p):(DV ps)[i]? =some (.tup [.int i,p]):=by
 simp[DV,h]
theorem MM{ps:List P}(hL:∀H,Dj W H c (.ref a)->∃vs,DO W.K H a vs/\Cw W H ps vs):Walk W (dB W.K a) (DV ps) (λH=>Dj W H c (.ref a)) where
 go:=λi H h hi=>by
   rintro⟨vs,h1,h2⟩:hL H h;rintro⟨v,h3,_⟩:Pd.get h2 (List.getElem?_eq_getElem (by simpa[DV]using hi));exact#[vs,v,h1,h3]
 LN:=λi H x H' h hi hy=>by
  rintro⟨vs,h1,h2⟩:hL H h;rintro⟨p,y,rfl,hp,rfl,hy⟩:hy;rintro⟨z,h3,h4⟩:Pd.He h2 (hy vs h1);have sm:=Ar (o:=.tup [.int i,y]) hp;exact#[sm,_,Qb h3,A9.mpr #[p,_,rfl,D1.of A6,.cons (Aa.mpr rfl) (.cons (h4.mono (AH.of sm)) .nil)]]
 stop:=λH h=>by
  rintro⟨vs,h1,h2⟩:hL H h;exact#[vs,h1,by simp[DV,Paired.length h2]]
theorem Tu:bootBuiltins "enumerate"=some (.type "enumerate"):=by decide +kernel
theorem W6(L:Bb ct X W cf k){tg:Expr}(ht:Cb tg=true)(ho:ct.own x=true)(hx:x="enumerate")(st:A7 a=true)(ha:PE X a ta):PI X tg (.Call (.Name x p) [a] [] pos) (wI W IY ta):=by
 subst hx;rintro⟨g1,g2,g3,g4⟩:L.ET ho;intro p0 s Y H R I h;refine Call_ (CJ I g1 g2 Tu (PyProof.Rows.callWith_type1 (AS ((AB ha Bv (A2 st [] _)) pos p0 s Y H (Sb λv H1=>∃c xs,Dj W H1 c v/\IY c=some xs/\∀J,Walk W J xs (λH=>Dj W H c v)->R J H1) I h) λus s1 ⟨vs,H1,I1,r1,q1⟩=>?_) (A2 st [] _) rfl));rintro⟨v,rfl,c,ps,hc,ek,q⟩:IB q1;rintro⟨qs,en,rfl⟩:AU ek;rintro⟨l,vs,rfl,k1,k2⟩:Bn en hc;cases r1 with
 |cons r rr=>
   cases rr;cases r;rintro⟨its,rv,pl,hz⟩:I1.list (.inl k1);have w:=MM (W:=W) (a:=l) (c:=c) (ps:=qs) λH h=>M4 en h
   rw[L.K]at w;cases tg with
   |Tuple es n tp=>
     refine call_enumerate_list pl.isList λh' e1 e2 e3 e4=>wpAny_pyIter_enum (s:={s1 with heap:=h'}) e1 ?_
     have I2:Inv X p0 Y H1 {s1 with heap:=h'}:=I1.kept (t':=s1.toks) e4;refine#[s1.heap.objs.size+1,[s1.heap.objs.size+1,s1.heap.objs.size],_,_,H1,rfl,I2,MO l s1.heap.objs.size _ (by lia),#[#[_,e1],e2],λb hb=>?_,q _ w]
     have hb:s1.heap.objs.size<=b:=by
      rcases mem_cons.mp hb with rfl|hb
      .lia
      .rw[mE hb];exact Nat.le_refl _
     exact I1.Ll hb (I1.Aj.fresh hb)
   |_=>cases ht
end
end Nv
namespace PySem
open Sem (wp)
open AutoSeq1 (wpAny_loadPart')
open PyProof.Rows
section
variable{prog:Program}{w:World}{A:Around}{E:Va}{s:Shared}
def Dd(prog:Program)(w:World)(s:Shared)(v:Value):Prop:=∀(A:Around) (E:Va) (Q:Bool->Shared->Prop),Q true s->wpAny (model prog w) A (eqIsQuiet 8 v) Q E s
variable{key:Value}
theorem DT{stored:List Value}(hk:Dd prog w s key)(hs:∀v∈stored,Dd prog w s v){Q:Bool->Shared->Prop}(h:Q false s):wpAny (model prog w) A (tableMayTell key stored) Q E s:=by
 unfold tableMayTell;refine wpAny_ite_split (λ_=>wpAny_pure h) (λ_=>?_);refine wB (hk _ _ _ ?_);refine xN (by decide) ?_;refine wB ?_;refine wpAny_forIn_list _ (λrest b s'=>(∀v∈rest,Dd prog w s v)/\b=(none,())/\s'=s) _ ?_ ?_ _ _ #[hs,rfl,rfl]
 .rintro x rest b s' ⟨hm,rfl,rfl⟩
  refine wB (hm x mS _ _ _ ?_);refine xN (by decide) (wpAny_pure ?_);exact#[λv hv=>hm v (mem_cons_of_mem _ hv),rfl,rfl]
 .rintro b s' ⟨_,rfl,rfl⟩
  exact wpAny_pure h
theorem Ao{es:Array DictEntry}{h:Int}{i:Nat}(hi:i∈(~~~es) h):∃e,es[i]? =some e/\e.hash=h:=by
 unfold placesWithHash at hi;rintro⟨h1,h2⟩:mem_filter.mp hi;have h1:=mem_range.mp h1;refine#[es[i],Array.getElem?_eq_getElem h1,?_];have h2:(Option.map (λx=>x.hash) es[i]? == some h)=true:=h2;rw[Array.getElem?_eq_getElem h1]at h2;have h2:(some es[i].hash == some h)=true:=h2;exact Option.some.inj (eq_of_beq h2)
theorem C2{es:Array DictEntry}{h:Int}{i:Nat}{e:DictEntry}(he:es[i]? =some e)(hh:e.hash=h):i∈(~~~es) h:=by
 unfold placesWithHash;refine mem_filter.mpr #[mem_range.mpr (Array.getElem?_eq_some_iff.mp he).1,?_];show(Option.map (λx=>x.hash) es[i]? == some h)=true;rw[he];show(some e.hash == some h)=true;rw[hh];exact beq_self_eq_true _
theorem Iv{es:Array DictEntry} :((~~~es) h).Nodup:=by
 unfold placesWithHash;exact List.Pairwise.filter _ List.nodup_range
theorem Q7{h:Int}{o:Obj}{es:Array DictEntry}{ep:Nat}{b:Nat->Bool}{Q:Option Nat->Shared->Prop}
 (hd:s.heap.get? d=some o)(ho:o.data= .dict es ep)(hk:(∃n t,key= .int n t)\/∃a,key= .ref a)
 (hr:(es.any λe=>e.key == key && e.hash != h)=false)
 (eqs:∀i e,es[i]? =some e->e.hash=h->SeqAt.EqAt A s e.key key (b i))
 (hq:Dd prog w s key)(hs:∀(i:Nat) (e:DictEntry),es[i]? =some e->Dd prog w s e.key)
 (one:∀i j e f,es[i]? =some e->es[j]? =some f->e.hash=h->f.hash=h->b i=true->b j=true->i=j)
 (hn:(∀i e,es[i]? =some e->e.hash=h->b i=false)->Q none s)
 (hy:∀i e,es[i]? =some e->e.hash=h->b i=true->Q (some i) s):wpAny (model prog w) A (dictFind d key h) Q E s:=by
 unfold dictFind;refine wpAny_holding ?_;refine wB (wpAny_dictEntries hd ho ?_)
 have plain:wpAny (model prog w) A (dictWalkPlain d key h es ((~~~es) h)) Q E s:=by
  unfold dictWalkPlain;refine wB ?_;refine wpAny_forIn_list _ (λrest st s'=>s'=s/\st=(none,())/\(∀i∈rest,i∈(~~~es) h)/\∀i∈(~~~es) h,i∉rest->b i=false) _ ?_ ?_ _ _ #[rfl,rfl,λi hi=>hi,λi hi hni=>absurd hi hni]
  .rintro i rest st s' ⟨rfl,rfl,hm,hf⟩
   rintro⟨e,he,hh⟩:Ao (hm i mS);simp only[he,hh,beq_self_eq_true,if_true];refine wB (wpAny_dictEpoch hd ho ?_);refine wB (eqs i e he hh prog w _ _ ?_);refine wB (wpAny_dictEpoch hd ho ?_);refine xN (by simp) ?_;refine wpAny_ite_split (λhb=>?_) (λhb=>?_)
   .exact wB (wpAny_rule (wpAny_pure (wpAny_pure (hy i e he hh hb))))
   .refine wB (wpAny_rule (wpAny_pure #[rfl,rfl,λj hj=>hm j (mem_cons_of_mem _ hj),λj hj hnj=>?_]))
    by_cases ej:j=i
    .rw[ej];simpa using hb
    .exact hf j hj (by simp[ej,hnj])
  .rintro st s' ⟨rfl,rfl,_,hf⟩
   exact wpAny_pure (hn λi e he hh=>hf i (C2 he hh) (by simp))
 have nodup:=Iv (es:=es) (h:=h)
 have hst:∀v∈List.filterMap (λi=>Option.map (λx=>x.key) es[i]?) ((~~~es) h),Dd prog w s v:=by
  intro v hv;rintro⟨i,hi,e⟩:mem_filterMap.mp hv;rintro⟨f,hf1,hf2⟩:Ao hi;rw[hf1]at e;have e:f.key=v:=Option.some.inj e;rw[<-e];exact hs i f hf1
 rcases hk with⟨n,t,rfl⟩|⟨a,rfl⟩
 .try dsimp only
  refine wpAny_ite_split (λ_=>plain) (λ_=>?_);refine wpAny_ite_split (λ_=>?_) (λ_=>?_)
  .refine wB (wpAny_pure ?_);refine xN (by simp) ?_;refine wB ?_
   refine wpAny_forIn_list _ (λrest st s'=>s'=s/\st.1=none/\rest.Nodup/\(∀i∈rest,i∈(~~~es) h)/\
    ((st.2=none/\∀i∈(~~~es) h,i∉rest->b i=false)\/∃j,st.2=some j/\j∈(~~~es) h/\j∉rest/\b j=true)) _ ?_ ?_ _ _
    #[rfl,rfl,nodup,λi hi=>hi,.inl #[rfl,λi hi hni=>absurd hi hni]]
   .rintro i rest ⟨r1,hit⟩ s' ⟨rfl,hr1,hnd,hm,hf⟩
    have hr1:r1=none:=hr1;subst hr1;rintro⟨e,he,hh⟩:Ao (hm i mS);simp only[he,hh,beq_self_eq_true,if_true];refine wB (wpAny_dictEpoch hd ho ?_);refine wB (eqs i e he hh prog w _ _ ?_);refine wB (wpAny_dictEpoch hd ho ?_);refine xN (by simp) ?_;have hnd':=nodup_cons.mp hnd;refine wpAny_ite_split (λhb=>?_) (λhb=>?_)
    .have hit0:hit=none:=by
      rcases hf with⟨z,_⟩|⟨j,z,hj,hjn,hbj⟩
      .exact z
      .obtain⟨f,hf1,hf2⟩:=Ao hj;have:=one i j e f he hf1 hh hf2 hb hbj;exact absurd (this▸mS) hjn
     subst hit0;refine xN (by simp) ?_;refine wB (wpAny_rule ?_);refine wpAny_ite_split (λ_=>wpAny_pure (wpAny_pure (hy i e he hh hb))) (λ_=>wpAny_pure #[rfl,rfl,hnd'.2,λj hj=>hm j (mem_cons_of_mem _ hj),.inr #[i,rfl,hm i mS,hnd'.1,hb]])
    .refine wB (wpAny_rule ?_);refine xN (by simp) (wpAny_pure #[rfl,rfl,hnd'.2,λj hj=>hm j (mem_cons_of_mem _ hj),?_]);rcases hf with⟨z,hf⟩|⟨j,z,hj,hjn,hbj⟩
     .refine .inl #[z,λj hj hnj=>?_]
      by_cases ej:j=i
      .rw[ej];simpa using hb
      .exact hf j hj (by simp[ej,hnj])
     .exact .inr #[j,z,hj,λy=>hjn (mem_cons_of_mem _ y),hbj]
   .rintro⟨r1,hit⟩ s' ⟨rfl,hr1,_,_,hf⟩
    have hr1:r1=none:=hr1;subst hr1;rcases hf with⟨z,hf⟩|⟨j,z,hj,_,hbj⟩
    .have z:hit=none:=z;subst z;exact wpAny_pure (hn λi e he hh=>hf i (C2 he hh) (by simp))
    .have z:hit=some j:=z;subst z;rintro⟨f,hf1,hf2⟩:Ao hj;exact wpAny_pure (hy j f hf1 hf2 hbj)
  .refine wB (DT hq hst ?_);refine xN (by simp) ?_;refine wB ?_
   refine wpAny_forIn_list _ (λrest st s'=>s'=s/\st.1=none/\rest.Nodup/\(∀i∈rest,i∈(~~~es) h)/\
    ((st.2=none/\∀i∈(~~~es) h,i∉rest->b i=false)\/∃j,st.2=some j/\j∈(~~~es) h/\j∉rest/\b j=true)) _ ?_ ?_ _ _
    #[rfl,rfl,nodup,λi hi=>hi,.inl #[rfl,λi hi hni=>absurd hi hni]]
   .rintro i rest ⟨r1,hit⟩ s' ⟨rfl,hr1,hnd,hm,hf⟩
    have hr1:r1=none:=hr1;subst hr1;rintro⟨e,he,hh⟩:Ao (hm i mS);simp only[he,hh,beq_self_eq_true,if_true];refine wB (wpAny_dictEpoch hd ho ?_);refine wB (eqs i e he hh prog w _ _ ?_);refine wB (wpAny_dictEpoch hd ho ?_);refine xN (by simp) ?_;have hnd':=nodup_cons.mp hnd;refine wpAny_ite_split (λhb=>?_) (λhb=>?_)
    .have hit0:hit=none:=by
      rcases hf with⟨z,_⟩|⟨j,z,hj,hjn,hbj⟩
      .exact z
      .obtain⟨f,hf1,hf2⟩:=Ao hj;have:=one i j e f he hf1 hh hf2 hb hbj;exact absurd (this▸mS) hjn
     subst hit0;refine xN (by simp) ?_;refine wB (wpAny_rule ?_);refine wpAny_ite_split (λ_=>wpAny_pure (wpAny_pure (hy i e he hh hb))) (λ_=>wpAny_pure #[rfl,rfl,hnd'.2,λj hj=>hm j (mem_cons_of_mem _ hj),.inr #[i,rfl,hm i mS,hnd'.1,hb]])
    .refine wB (wpAny_rule ?_);refine xN (by simp) (wpAny_pure #[rfl,rfl,hnd'.2,λj hj=>hm j (mem_cons_of_mem _ hj),?_]);rcases hf with⟨z,hf⟩|⟨j,z,hj,hjn,hbj⟩
     .refine .inl #[z,λj hj hnj=>?_]
      by_cases ej:j=i
      .rw[ej];simpa using hb
      .exact hf j hj (by simp[ej,hnj])
     .exact .inr #[j,z,hj,λy=>hjn (mem_cons_of_mem _ y),hbj]
   .rintro⟨r1,hit⟩ s' ⟨rfl,hr1,_,_,hf⟩
    have hr1:r1=none:=hr1;subst hr1;rcases hf with⟨z,hf⟩|⟨j,z,hj,_,hbj⟩
    .have z:hit=none:=z;subst z;exact wpAny_pure (hn λi e he hh=>hf i (C2 he hh) (by simp))
    .have z:hit=some j:=z;subst z;rintro⟨f,hf1,hf2⟩:Ao hj;exact wpAny_pure (hy j f hf1 hf2 hbj)
 .try dsimp only
  refine wpAny_ite_split (λ_=>plain) (λ_=>?_);rw[hr];refine xN (by simp) ?_;refine wpAny_ite_split (λ_=>?_) (λ_=>?_)
  .refine wB (wpAny_pure ?_);refine xN (by simp) ?_;refine wB ?_
   refine wpAny_forIn_list _ (λrest st s'=>s'=s/\st.1=none/\rest.Nodup/\(∀i∈rest,i∈(~~~es) h)/\
    ((st.2=none/\∀i∈(~~~es) h,i∉rest->b i=false)\/∃j,st.2=some j/\j∈(~~~es) h/\j∉rest/\b j=true)) _ ?_ ?_ _ _
    #[rfl,rfl,nodup,λi hi=>hi,.inl #[rfl,λi hi hni=>absurd hi hni]]
   .rintro i rest ⟨r1,hit⟩ s' ⟨rfl,hr1,hnd,hm,hf⟩
    have hr1:r1=none:=hr1;subst hr1;rintro⟨e,he,hh⟩:Ao (hm i mS);simp only[he,hh,beq_self_eq_true,if_true];refine wB (wpAny_dictEpoch hd ho ?_);refine wB (eqs i e he hh prog w _ _ ?_);refine wB (wpAny_dictEpoch hd ho ?_);refine xN (by simp) ?_;have hnd':=nodup_cons.mp hnd;refine wpAny_ite_split (λhb=>?_) (λhb=>?_)
    .have hit0:hit=none:=by
      rcases hf with⟨z,_⟩|⟨j,z,hj,hjn,hbj⟩
      .exact z
      .obtain⟨f,hf1,hf2⟩:=Ao hj;have:=one i j e f he hf1 hh hf2 hb hbj;exact absurd (this▸mS) hjn
     subst hit0;refine xN (by simp) ?_;refine wB (wpAny_rule ?_);refine wpAny_ite_split (λ_=>wpAny_pure (wpAny_pure (hy i e he hh hb))) (λ_=>wpAny_pure #[rfl,rfl,hnd'.2,λj hj=>hm j (mem_cons_of_mem _ hj),.inr #[i,rfl,hm i mS,hnd'.1,hb]])
    .refine wB (wpAny_rule ?_);refine xN (by simp) (wpAny_pure #[rfl,rfl,hnd'.2,λj hj=>hm j (mem_cons_of_mem _ hj),?_]);rcases hf with⟨z,hf⟩|⟨j,z,hj,hjn,hbj⟩
     .refine .inl #[z,λj hj hnj=>?_]
      by_cases ej:j=i
      .rw[ej];simpa using hb
      .exact hf j hj (by simp[ej,hnj])
     .exact .inr #[j,z,hj,λy=>hjn (mem_cons_of_mem _ y),hbj]
   .rintro⟨r1,hit⟩ s' ⟨rfl,hr1,_,_,hf⟩
    have hr1:r1=none:=hr1;subst hr1;rcases hf with⟨z,hf⟩|⟨j,z,hj,_,hbj⟩
    .have z:hit=none:=z;subst z;exact wpAny_pure (hn λi e he hh=>hf i (C2 he hh) (by simp))
    .have z:hit=some j:=z;subst z;rintro⟨f,hf1,hf2⟩:Ao hj;exact wpAny_pure (hy j f hf1 hf2 hbj)
  .refine wB (DT hq hst ?_);refine xN (by simp) ?_;refine wB ?_
   refine wpAny_forIn_list _ (λrest st s'=>s'=s/\st.1=none/\rest.Nodup/\(∀i∈rest,i∈(~~~es) h)/\
    ((st.2=none/\∀i∈(~~~es) h,i∉rest->b i=false)\/∃j,st.2=some j/\j∈(~~~es) h/\j∉rest/\b j=true)) _ ?_ ?_ _ _
    #[rfl,rfl,nodup,λi hi=>hi,.inl #[rfl,λi hi hni=>absurd hi hni]]
   .rintro i rest ⟨r1,hit⟩ s' ⟨rfl,hr1,hnd,hm,hf⟩
    have hr1:r1=none:=hr1;subst hr1;rintro⟨e,he,hh⟩:Ao (hm i mS);simp only[he,hh,beq_self_eq_true,if_true];refine wB (wpAny_dictEpoch hd ho ?_);refine wB (eqs i e he hh prog w _ _ ?_);refine wB (wpAny_dictEpoch hd ho ?_);refine xN (by simp) ?_;have hnd':=nodup_cons.mp hnd;refine wpAny_ite_split (λhb=>?_) (λhb=>?_)
    .have hit0:hit=none:=by
      rcases hf with⟨z,_⟩|⟨j,z,hj,hjn,hbj⟩
      .exact z
      .obtain⟨f,hf1,hf2⟩:=Ao hj;have:=one i j e f he hf1 hh hf2 hb hbj;exact absurd (this▸mS) hjn
     subst hit0;refine xN (by simp) ?_;refine wB (wpAny_rule ?_);refine wpAny_ite_split (λ_=>wpAny_pure (wpAny_pure (hy i e he hh hb))) (λ_=>wpAny_pure #[rfl,rfl,hnd'.2,λj hj=>hm j (mem_cons_of_mem _ hj),.inr #[i,rfl,hm i mS,hnd'.1,hb]])
    .refine wB (wpAny_rule ?_);refine xN (by simp) (wpAny_pure #[rfl,rfl,hnd'.2,λj hj=>hm j (mem_cons_of_mem _ hj),?_]);rcases hf with⟨z,hf⟩|⟨j,z,hj,hjn,hbj⟩
     .refine .inl #[z,λj hj hnj=>?_]
      by_cases ej:j=i
      .rw[ej];simpa using hb
      .exact hf j hj (by simp[ej,hnj])
     .exact .inr #[j,z,hj,λy=>hjn (mem_cons_of_mem _ y),hbj]
   .rintro⟨r1,hit⟩ s' ⟨rfl,hr1,_,_,hf⟩
    have hr1:r1=none:=hr1;subst hr1;rcases hf with⟨z,hf⟩|⟨j,z,hj,_,hbj⟩
    .have z:hit=none:=z;subst z;exact wpAny_pure (hn λi e he hh=>hf i (C2 he hh) (by simp))
    .have z:hit=some j:=z;subst z;rintro⟨f,hf1,hf2⟩:Ao hj;exact wpAny_pure (hy j f hf1 hf2 hbj)
end
end PySem
namespace Nv
open PySem L2 PyProof.Rows
def Ci(h:Heap)(d:Addr)(es:List DictEntry)(ep:Nat):Prop:=∃o,h.get? d=some o/\o.ExactDict/\o.data= .dict es.toArray ep
variable{s:Shared}{ep:Nat}
theorem Ci.typ{es:List DictEntry}(h:Ci s.heap d es ep):s.TypeIs (.ref d) "dict":=let⟨o,h1,h2,_⟩:=h;#[o,h1,h2.1]
theorem Ci.at'{h h':Heap}{es:List DictEntry}(x:Ci h d es ep)(k:∀o,h.get? d=some o->h'.get? d=some o):Ci h' d es ep:=let⟨o,h1,r⟩:=x;#[o,k o h1,r]
section
variable{prog:Program}{w:World}{A:Around}{E:Va}{s:Shared}
theorem Ao{es:Array DictEntry}{h:Int}{i:Nat}(hi:i∈(~~~es) h):∃e,es[i]? =some e/\e.hash=h:=by
 unfold placesWithHash at hi;rintro⟨h1,h2⟩:mem_filter.mp hi;have h1:=mem_range.mp h1;refine#[es[i],Array.getElem?_eq_getElem h1,?_];have h2:(Option.map (λx=>x.hash) es[i]? == some h)=true:=h2;rw[Array.getElem?_eq_getElem h1]at h2;have h2:(some es[i].hash == some h)=true:=h2;exact Option.some.inj (eq_of_beq h2)
theorem C2{es:Array DictEntry}{h:Int}{i:Nat}{e:DictEntry}(he:es[i]? =some e)(hh:e.hash=h):i∈(~~~es) h:=by
 unfold placesWithHash;refine mem_filter.mpr #[mem_range.mpr (Array.getElem?_eq_some_iff.mp he).1,?_];show(Option.map (λx=>x.hash) es[i]? == some h)=true;rw[he];show(some e.hash == some h)=true;rw[hh];exact beq_self_eq_true _
theorem Q5{d:Addr}{x:Str}{t:Tok}{h:Int}{o:Obj}{es:Array DictEntry}{ep:Nat}{Q:Option Nat->Shared->Prop}(hd:s.heap.get? d=some o)(ho:o.data= .dict es ep)(hc:∀(i:Nat) (e:DictEntry),es[i]? =some e->∃z t,e.key= .str z t)
 (hn:(∀(i:Nat) (e:DictEntry),es[i]? =some e->∀t,e.key≠.str x t)->Q none s)(hy:∀i e t,es[i]? =some e->e.key= .str x t->Q (some i) s):wpAny (model prog w) A (dictFind d (.str x t) h) Q E s:=by
 unfold dictFind;refine wpAny_holding (wB (wpAny_dictEntries hd ho ?_));dsimp only;refine wpAny_ite_split (λ_=>?_) (λhab=>absurd (Array.all_eq_true.mpr λi hi=>?_) hab)
 .unfold foundByValue;cases hf:es.findIdx? (·.key.isStr x)with
  |none=>
    refine wpAny_pure (hn λi e he t z=>?_);have:=Array.findIdx?_eq_none_iff.mp hf e (Array.mem_of_getElem? he);rw[z]at this;simp[Value.isStr]at this
  |some i=>
    rintro⟨hi,h1,_⟩:Array.findIdx?_eq_some_iff_getElem.mp hf;have he:es[i]? =some es[i]:=Array.getElem?_eq_getElem hi;dsimp only;rw[he];dsimp only;rintro⟨z,t',hz⟩:hc i es[i] he;rw[hz]at h1 ⊢;have hzx:z=x:=by simpa[Value.isStr]using h1
    subst hzx;refine wB (wpAny_dictEpoch hd ho ?_);refine wB (SeqAt.EqAt.str_str z t' z t prog w _ _ ?_);refine wB (wpAny_dictEpoch hd ho ?_);refine xN (by simp) ?_;refine wpAny_ite_split (λ_=>?_) (λhab=>absurd (by simp) hab);exact wB (wpAny_rule (wpAny_pure (hy i es[i] t' he hz)))
 .obtain⟨z,t',hz⟩:=hc i es[i] (Array.getElem?_eq_getElem hi);rw[hz];rfl
end
variable{Pg:Program}{W:Wd}{H:Hp}
theorem Dw{kvs:List (P×P)}{k:P}(h:Bk kvs k=true):keyOk k=true/\∀q∈kvs,q.1.tag=k.tag:=by
 unfold Bk at h;rw[bA]at h;exact#[h.1,λq hq=>by simpa using all_eq_true.mp h.2 q hq]
theorem Ii{p:P}(h:p.tag=3):∃i,p= .str i:=by
 cases p<;>first|exact#[_,rfl]|cases h
theorem LR{p:P}(h:p.tag=4):∃i,p= .tup i:=by
 cases p<;>first|exact#[_,rfl]|cases h
theorem LS{p:P}(h:p.tag=2):∃i,p= .int i:=by
 cases p<;>first|exact#[_,rfl]|cases h
theorem Ee:∀{ps:List P},(ps.all λp=>p.tag == 3)=true->∃xs:List Str,ps=xs.map .str
 |[],_=>#[[],rfl]
 | p::ps,h=>by
   rw[all_cons,bA]at h;rintro⟨x,rfl⟩:Ii (eq_of_beq h.1);rintro⟨xs,rfl⟩:Ee h.2;exact#[x::xs,rfl]
theorem GU:∀xs:List Str,Cv P.BN (xs.map .str)=some xs
 |[]=>rfl
 |x::xs=>by show((Cv P.BN (xs.map .str)).map (x::·))=_;rw[GU xs];rfl
theorem HM:∀xs ys:List Str,BA (xs.map .str) (ys.map .str)=true
 |[],_=>rfl
 |_::_,[]=>rfl
 |x::xs,y::ys=>by show(BM (.str x) (.str y) && BA (xs.map .str) (ys.map .str))=true;rw[HM xs ys];rfl
theorem GL:∀xs:List Str,P.Bi (xs.map .str)=0
 |[]=>rfl
 |x::xs=>by rw[map_cons,GN,GL xs];rfl
theorem Kb{p q:P}(hp:keyOk p=true)(hq:keyOk q=true)(e:p.tag=q.tag):BM p q=true/\p.depth<=1:=by
 cases p with
 |int i=>rintro⟨j,rfl⟩:LS e.symm;exact#[rfl,Nat.zero_le _]
 |str i=>rintro⟨j,rfl⟩:Ii e.symm;exact#[rfl,Nat.zero_le _]
 |tup ps=>
   rintro⟨qs,rfl⟩:LR e.symm;rintro⟨xs,rfl⟩:Ee (show(ps.all λp=>p.tag == 3)=true from hp);rintro⟨ys,rfl⟩:Ee (show(qs.all λp=>p.tag == 3)=true from hq);refine#[?_,by rw[HL,GL];exact Nat.le_refl _];unfold BM;show(_ || BA (xs.map .str) (ys.map .str))=true;rw[HM,Bool.or_true]
 |_=>cases hp
theorem Hu(hp:keyOk p=true)(hv:A5 W H p v)(r:RelV v u)(Aj:DC Pg W.w H s.heap)(By:W.K.In s.heap):Dd Pg W.w s u:=by
 cases p with
 |int i=>cases Aa.mp hv;rintro⟨t,rfl⟩:r;exact λA E Q q=>by rw[eqIsQuiet_byValue 8 rfl];exact wpAny_pure q
 |str i=>cases AJ.mp hv;rintro⟨t,rfl⟩:r;exact λA E Q q=>by rw[eqIsQuiet_byValue 8 rfl];exact wpAny_pure q
 |tup ps=>
   rintro⟨xs,rfl⟩:Ee (show(ps.all λp=>p.tag == 3)=true from hp);rintro⟨a,vs,rfl,h1,h2⟩:A9.mp hv;cases r;rintro⟨its,ri,pi⟩:BY Aj By h1;have hs:=D3 (GU xs) h2 ri;intro A E Q q;rw[eqIsQuiet.eq_2];refine wB (wpAny_specialOf pi.typeIs PySem.F.slot_tuple_eq.lookup ?_)
   try dsimp only
   refine wB (wpAny_isInstance (T:="tuple") (b:=true) pi.typeIs (by rw[isSubtype_type];kernel_rfl) ?_);refine xN (by decide) ?_;rintro⟨o,e1,e2,n2,e3⟩:pi;refine wB (wpAny_seqItems e1 e3 ?_);refine wB ?_;show wpAny _ _ (forIn its.toArray _ _) _ _ s;rw[<-Array.forIn_toList];refine wpAny_forIn_list _ (λrest b s'=>(∀v∈rest,v∈its)/\b=(none,())/\s'=s) _ ?_ ?_ _ _ #[λv hv=>hv,rfl,rfl]
   .rintro x rest b s' ⟨hm,rfl,rfl⟩
    rintro⟨i,hi⟩:mem_iff_getElem?.mp (hm x mS);rintro⟨z,_,t,rfl⟩:Pd.He hs hi;refine wB ?_;rw[eqIsQuiet_byValue 7 rfl];exact wpAny_pure (xN (by decide) (wpAny_pure #[λv hv=>hm v (mem_cons_of_mem _ hv),rfl,rfl]))
   .rintro b s' ⟨_,rfl,rfl⟩
    exact wpAny_pure q
 |_=>cases hp
theorem JL{kvs:List (P×P)}(hn:(kvs.map (·.1)).Nodup){i j:Nat}{p q:P×P}(h1:kvs[i]? =some p)(h2:kvs[j]? =some q)(e:p.1=q.1):i=j:=by
 rintro⟨hi,ei⟩:List.getElem?_eq_some_iff.mp h1;rintro⟨hj,ej⟩:List.getElem?_eq_some_iff.mp h2;have hpw:=List.pairwise_iff_getElem.mp hn;rcases Nat.lt_trichotomy i j with hlt|heq|hgt
 .exact absurd (by rw[getElem_map,getElem_map,ei,ej,e]) (hpw i j (by simpa using hi) (by simpa using hj) hlt)
 .exact heq
 .exact absurd (by rw[getElem_map,getElem_map,ei,ej,e]) (hpw j i (by simpa using hj) (by simpa using hi) hgt)
theorem Mr{a:Addr}{kvs:List (P×P)}{es:List DictEntry}{o:Obj}{v:V}{k:P}{u:Value}{A:Around}{E:Va}{Q:Option Nat->Shared->Prop}(Aj:DC Pg W.w H s.heap)(By:W.K.In s.heap)(hu:A.units + 20 < cLine)(hd:s.heap.get? a=some o)(ho:o.data= .dict es.toArray ep)(ok:DD W H a kvs es)(hk:Bk kvs k=true)(hv:A5 W H k v)(r:RelV v u)
 (q0:(∀p∈kvs,p.1≠k)->Q none s)(q1:∀(i:Nat) (p:P×P),kvs[i]? =some p->p.1=k->Q (some i) s):wpAny (model Pg W.w) A (dictFind a u (CQ W.w k)) Q E s:=by
 rintro⟨hk,ht⟩:Dw hk;have hp:=ok.pr
 have ent:∀(i:Nat) (e:DictEntry),es.toArray[i]? =some e->∃p y,kvs[i]? =some p/\e.hash=CQ W.w p.1/\RelV y e.key/\A5 W H p.1 y/\p.1.tag=k.tag/\keyOk p.1=true:=by
  intro i e he;rw[List.getElem?_toArray]at he;rintro⟨p,h1,h2,⟨y,h3,h4⟩,_⟩:Pd.He hp he;exact#[p,y,h1,h2,h3,h4,ht p (mem_of_getElem? h1),ok.ks p (mem_of_getElem? h1)]
 have ent':∀p∈kvs,∃(i:Nat) (e:DictEntry),kvs[i]? =some p/\es.toArray[i]? =some e/\e.hash=CQ W.w p.1:=λp hp'=>by
  rintro⟨i,hi,e⟩:mem_iff_getElem.mp hp';have h1:kvs[i]? =some p:=by rw[List.getElem?_eq_getElem hi,e]
  rintro⟨f,h2,h3⟩:Pd.get hp h1;exact#[i,f,h1,by rw[List.getElem?_toArray];exact h2,h3.1]
 have gen:((∃n t,u= .int n t)\/∃a,u= .ref a)->wpAny (model Pg W.w) A (dictFind a u (CQ W.w k)) Q E s:=λhku=>by
  refine Q7 (b:=λi=>match kvs[i]? with|some p=>decide (p.1=k)|none=>false) hd ho hku ?_ ?_ ?_ ?_ ?_ ?_ ?_
  .rw [Array.any_eq_false];intro i hi hh;rintro⟨p,y,h1,h2,h3,h4,h5,h6⟩:ent i es.toArray[i] (Array.getElem?_eq_getElem hi);rw[bA]at hh;have hke:es.toArray[i].key=u:=eq_of_beq hh.1;rw[hke]at h3
   have hF:p.1=k:=by
    rcases hku with⟨n,t,rfl⟩|⟨b,rfl⟩
    .cases k with
     |int m=>
       rintro⟨m',hm⟩:LS h5;rw[hm]at h4 ⊢;cases Aa.mp h4;cases Aa.mp hv;rintro⟨t1,e1⟩:r;rintro⟨t2,e2⟩:h3;rw[e1]at e2;cases e2;rfl
     |str m=>cases AJ.mp hv;rintro⟨t1,e1⟩:r;cases e1
     |tup m=>rintro⟨_,_,rfl,_⟩:A9.mp hv;cases r
     |_=>cases hk
    .cases k with
     |int m=>cases Aa.mp hv;rintro⟨t1,e1⟩:r;cases e1
     |str m=>cases AJ.mp hv;rintro⟨t1,e1⟩:r;cases e1
     |tup m=>
       rintro⟨m',hm⟩:LR h5;have c:=(Kb h6 hk h5).1;rw[hm]at h4 c ⊢;have hv0:=hv;have hy0:=h4;rintro⟨b1,_,rfl,_⟩:A9.mp hv;rintro⟨b2,_,rfl,_⟩:A9.mp h4;cases r;cases h3;exact A5.det Aj By hy0 hv0 c
     |_=>cases hk
   have:=hh.2;rw[h2,hF]at this;simp at this
  .intro i e he hh;rintro⟨p,y,h1,h2,h3,h4,h5,h6⟩:ent i e he;show SeqAt.EqAt A s e.key u (match kvs[i]? with|some p=>decide (p.1=k)|none=>false);rw[h1];have c:=Kb h6 hk h5;exact(Ls p.1 h4 hv h3 r Aj By c.1 (by have:=c.2;lia)).2.2
  .exact Hu hk hv r Aj By
  .intro i e he;rintro⟨p,y,h1,h2,h3,h4,h5,h6⟩:ent i e he;exact Hu h6 h4 h3 Aj By
  .intro i j e f he hf _ _ bi bj;rintro⟨p,y,h1,_⟩:ent i e he;rintro⟨p',y',h1',_⟩:ent j f hf;simp only[h1,h1']at bi bj;exact JL ok.nd h1 h1' ((of_decide_eq_true bi).trans (of_decide_eq_true bj).symm)
  .intro hno;refine q0 λp hp' hF=>?_
   rintro⟨i,f,h1,h2,h3⟩:ent' p hp';have:=hno i f h2 (by rw[h3,hF]);simp[h1,hF]at this
  .intro i e he _ hb;rintro⟨p,y,h1,_⟩:ent i e he;simp only[h1]at hb;exact q1 i p h1 (of_decide_eq_true hb)
 cases k with
 |int n=>
   cases Aa.mp hv;rintro⟨t,rfl⟩:r;exact gen (.inl #[_,_,rfl])
 |tup n=>
   rintro⟨b,_,rfl,_⟩:A9.mp hv;cases r;exact gen (.inr #[_,rfl])
 |str n=>
   clear gen;cases AJ.mp hv;rintro⟨t,rfl⟩:r
   have key:∀(i:Nat) (e:DictEntry),es.toArray[i]? =some e->∃p m t,kvs[i]? =some p/\p.1= .str m/\e.key= .str m t:=λi e he=>by
    rintro⟨p,y,h1,h2,h3,h4,h5,_⟩:ent i e he;rintro⟨m,hm⟩:Ii h5;rw[hm]at h4;cases AJ.mp h4;rintro⟨t',e1⟩:h3;exact#[p,m,t',h1,hm,e1]
   refine Q5 hd ho (λi e he=>let⟨_,m,t,_,_,z⟩:=key i e he;#[m,t,z]) (λhno=>q0 λp hp' hF=>?_) λi e t he hb=>?_
   .obtain⟨i,e,h1,h2,h3⟩:=ent' p hp';rintro⟨p',m,t',g1,g2,g3⟩:key i e h2;rw[h1]at g1;cases g1;rw[hF]at g2;cases g2;exact hno i e h2 t' g3
   .obtain⟨p,m,t',g1,g2,g3⟩:=key i e he;rw[hb]at g3;cases g3;exact q1 i p g1 g2
 |_=>cases hk
theorem HG:∀{xs:List Str} {us:List Value} {acc:Array Int} {A:Around} {E:Va} {s:Shared} {Q:Array Int->Shared->Prop},Paired (λz u=>∃t,u=Value.str z t) xs us->
 (∀(tk:Nat) (b':Array Int),b'.toList=acc.toList++xs.map (hashStr W.w)->Q b' {s with toks:=tk})->
 wpAny (model Pg W.w) A (forIn us acc λx r=>do let h <-pyHash x;pure (ForInStep.yield (r.push h))) Q E s
 |_,_,acc,A,E,s,Q,.nil,q=>wpAny_pure (q s.toks acc (by simp))
 | _,_,acc,A,E,s,Q,.cons ⟨t,e⟩ h,q=>by
   subst e;rw[forIn_cons];refine wB (wB (wpAny_pyHash_str (wpAny_pure ?_)));refine HG h λtk b' hb=>q tk b' ?_
   rw[hb];simp
theorem JZ{k:P}{v:V}{u:Value}{A:Around}{E:Va}{Q:Int->Shared->Prop}(Aj:DC Pg W.w H s.heap)(By:W.K.In s.heap)(hu:A.units + 20 < cLine)(hk:keyOk k=true)(hv:A5 W H k v)(r:RelV v u)(q:∀tk:Nat,Q (CQ W.w k) {s with toks:=tk}):wpAny (model Pg W.w) A (pyHash u) Q E s:=by
 cases k with
 |int i=>cases Aa.mp hv;rintro⟨t,rfl⟩:r;exact wpAny_pyHash_int (q _)
 |str i=>cases AJ.mp hv;rintro⟨t,rfl⟩:r;exact wpAny_pyHash_str (q _)
 |tup ps=>
   rintro⟨xs,rfl⟩:Ee (show(ps.all λp=>p.tag == 3)=true from hk);rintro⟨a,vs,rfl,h1,h2⟩:A9.mp hv;cases r;rintro⟨its,ri,pi⟩:BY Aj By h1;have hs:=D3 (GU xs) h2 ri;show wpAny _ _ (pyHashByItsType (.ref a)) _ _ s;refine PySem.W.pyHash_slot (pi.typeIs) PySem.F.slot_tuple_hash PySem.F.entry_tuple_hash (PySem.F.args_tuple_hash_1 _) (by decide) (.inr (by lia)) ?_;show wpAny _ _ (Builtin.Tuple.tupleItemsOf (.ref a) >>= λxs=>forIn xs [].toArray (λx r=>do let h <-pyHash x;pure (ForInStep.yield (r.push h))) >>= λhs=>retInt (Builtin.Tuple.tupleHashOf hs.toList)) _ _ s;rintro⟨o,e1,e2,n,e3⟩:pi;unfold Builtin.Tuple.tupleItemsOf;refine wB (wB (wpAny_seqItems e1 e3 (wpAny_pure ?_)));rw[<-Array.forIn_toList];show wpAny _ _ (forIn its [].toArray _ >>= _) _ _ s;refine wB (HG hs λtk b' hb=>?_);refine wB (wpAny_mkInt' (wpAny_pure #[_,_,rfl,?_]))
   have e:reduceHash (Builtin.Tuple.tupleHashOf b'.toList)=CQ W.w (.tup (xs.map .str)):=by
    rw[hb];unfold CQ;simp[P.BN,Function.comp_def]
   rw[e];exact q _
 |_=>cases hk
theorem Ny{kvs:List (P×P)}{k:P}(h:∀p∈kvs,p.1≠k):CT kvs k=none:=by
 unfold CT;rw[List.find?_eq_none.mpr (λp hp=>by simp[h p hp])];rfl
theorem Ta{kvs:List (P×P)}{k:P}{i:Nat}{p:P×P}(hn:(kvs.map (·.1)).Nodup)(h:kvs[i]? =some p)(e:p.1=k):CT kvs k=some p.2:=by
 unfold CT;cases hf:kvs.find? λp=>decide (p.1=k)with
 |none=>
   have:=List.find?_eq_none.mp hf p (mem_of_getElem? h);simp[e]at this
 |some p'=>
   have h1:=List.mem_of_find?_eq_some hf;have h2:p'.1=k:=by simpa using List.find?_some hf
   rintro⟨j,hj,e'⟩:mem_iff_getElem.mp h1;have h1':kvs[j]? =some p':=by rw[List.getElem?_eq_getElem hj,e']
   have:=JL hn h h1' (e.trans h2.symm);subst this;rw[h]at h1';cases h1';rfl
theorem GP{a:Addr}{kvs:List (P×P)}{es:List DictEntry}{v:V}{k:P}{u:Value}{A:Around}{E:Va}{Q:Option Value->Shared->Prop}(Aj:DC Pg W.w H s.heap)(By:W.K.In s.heap)(hu:A.units + 20 < cLine)(hd:Ci s.heap a es ep)(ok:DD W H a kvs es)(hk:Bk kvs k=true)(hv:A5 W H k v)(r:RelV v u)
 (q0:CT kvs k=none->∀tk,Q none {s with toks:=tk})(q1:∀p y z,CT kvs k=some p->A5 W H p y->RelV y z->∀tk,Q (some z) {s with toks:=tk}):wpAny (model Pg W.w) A (dictGet a u) Q E s:=by
 rintro⟨o,h1,h2,h3⟩:hd;unfold dictGet;refine wpAny_holding (wB (JZ Aj By hu (Dw hk).1 hv r λtk=>?_));refine wB (Mr (s:={s with toks:=tk}) Aj By hu h1 h3 ok hk hv r (λh=>?_) λi p hi e=>?_)
 .exact wpAny_pure (q0 (Ny h) tk)
 .refine wB (wpAny_dictEntries (s:={s with toks:=tk}) h1 h3 (wpAny_pure ?_));rintro⟨f,g1,g2⟩:Pd.get ok.pr hi;rw[List.getElem?_toArray,g1];rintro⟨y,ry,hy⟩:g2.2.2;exact q1 _ y _ (Ta ok.nd hi e) hy ry tk
theorem HK(kvs:List (P×P))(k v:P)(h:(kvs.any λq=>decide (q.1=k))=true):(dput kvs k v).map (·.1)=kvs.map (·.1):=by
 unfold dput;rw[iP h,map_map];apply map_congr_left;intro p _;show(if p.1=k then(p.1,v)else p).1=p.1;split<;>rfl
theorem GJ{kvs:List (P×P)}{k v:P}(hn:(kvs.map (·.1)).Nodup):((dput kvs k v).map (·.1)).Nodup:=by
 by_cases h:(kvs.any λq=>decide (q.1=k))=true
 .rw[HK _ _ _ h];exact hn
 .unfold dput;rw[iN h,map_append,nodup_append];refine#[hn,by simp,?_];intro x hx z hz e;simp at hz;subst hz;rintro⟨p,hp,e2⟩:mem_map.mp hx;exact h (any_eq_true.mpr #[p,hp,dZ (e2.trans e)])
theorem GK(kvs:List (P×P))(k v:P):(dput kvs k v).length<=kvs.length + 1:=by
 unfold dput;split
 .rw[lM];lia
 .rw[lA];exact Nat.le_refl _
theorem K5{kvs:List (P×P)}{k v:P}{p:P×P}(h:p∈dput kvs k v):(∃q∈kvs,p.1=q.1)\/p=(k,v):=by
 unfold dput at h;split at h
 .obtain⟨q,hq,e⟩:=mem_map.mp h;refine .inl #[q,hq,?_];rw[<-e];split<;>rfl
 .rcases mZ h with z|z
  .exact .inl #[p,z,rfl]
  .exact .inr (mE z)
theorem Ha{kvs:List (P×P)}{es:List DictEntry}{k:P}(hr:RelV y r)(hy:A5 W H v y)(hn:(kvs.map (·.1)).Nodup):∀{i:Nat} {p:P×P},Paired (FC W H) kvs es->kvs[i]? =some p->p.1=k->
 Paired (FC W H) (kvs.map λp=>if p.1=k then(p.1,v)else p) (es.modify i λe=>{hash:=e.hash,key:=e.key,val:=r}):=by
 induction kvs generalizing es with
 |nil=>intro i p _ e;simp at e
 |cons q kvs ih=>
   intro i p hp hi he;rw[map_cons,nodup_cons]at hn;cases hp with
   |@cons _ e0 _ es' h0 ht=>
     cases i with
     |zero=>
       simp at hi;subst hi;rw[map_cons,iP he]
       have rest:(kvs.map λp=>if p.1=k then(p.1,v)else p)=kvs:=by
        have:∀q∈kvs,(if q.1=k then(q.1,v)else q)=q:=by
         intro q hq;rw[iN];intro z;exact hn.1 (mem_map.mpr #[q,hq,z.trans he.symm])
        conv=>rhs;rw[<-List.map_id kvs]
        exact map_congr_left this
       rw[rest];exact .cons #[h0.1,h0.2.1,y,hr,hy] ht
     |succ i=>
       have hi:kvs[i]? =some p:=by simpa using hi
       rw[map_cons,iN]
       .exact .cons h0 (ih hn.2 ht hi he)
       .intro z;exact hn.1 (mem_map.mpr #[p,mem_of_getElem? hi,he.trans z.symm])
theorem FC.mono{H':Hp}{q:P×P}{e:DictEntry}(z:FC W H q e)(k:AH H H'):FC W H' q e:=#[z.1,let⟨v,a,b⟩:=z.2.1;#[v,a,b.mono k],let⟨v,a,b⟩:=z.2.2;#[v,a,b.mono k]]
section
variable{X:Cx}{p0:Oa}{Y:L2.St}{s:Shared}{a:Addr}{kvs:List (P×P)}{k v:P}{x y:V}{u r:Value}{A:Around}{E:Va}
theorem Qh(I:∅){es:List DictEntry}(hH:H a=some (DX a es)):Ci s.heap a es es.length:=(show Br X.prog X.w H s.heap a (DX a es)from I.Aj a _ hH).1
theorem K7{h':Heap}{t':Nat}{es es':List DictEntry}{oc:Value}{od:Option Addr}{os:Array (Option Value)}{d0:Data}(I:∅)(hH:H a=some (DX a es))(hs:Heap.SameBut a s.heap h')
 (hg:h'.get? a=some #[oc,od,.dict es'.toArray es'.length,os])(hx:(Obj.mk oc od d0 os).ExactDict):Inv X p0 Y (upd H a (DX a es')) {s with heap:=h',toks:=t'}:=by
 refine Te I (by rw[hH];exact True.intro) hs #[_,hg] #[#[_,hg,hx,rfl],#[_,hg],?_]
 rintro h1 h2 ⟨o,q1,q2,q3⟩ k
 exact#[o,k o q1,q2,q3]
theorem GO{Q:Unit->Shared->Prop}{es:List DictEntry}(hK:W.K=X.K)(hu:A.units + 150 < cLine)(hw:W.w=X.w)(I:∅)(hH:H a=some (DX a es))(ok:DD W H a kvs es)(hk:Bk kvs k=true)(hx:A5 W H k x)(hy:A5 W H v y)(hl:kvs.length < big)(rx:RelV x u)(ry:RelV y r)
 (h:∀es' s',DD W (upd H a (DX a es')) a (dput kvs k v) es'->Inv X p0 Y (upd H a (DX a es')) s'->Q () s'):
 wpAny (model X.prog X.w) A (setItem (.ref a) u r) Q E s:=by
 have hd:=Qh I hH;have ty:=hd.typ;rintro⟨o,h1,h2,h3⟩:hd;have hlen:=Paired.length ok.pr;have T:∀es',AH H (upd H a (DX a es')):=λes'=>BR hH Hz.1 Hz.2.1
 have ko:=(Dw hk).1;unfold setItem;refine wpAny_holding (wB (wpAny_sequenceKey ty (by decide) ?_));refine wB (wpAny_callSpecial?_slot ty slot_dict_setitem (wpAny_call_entry slot_dict_setitem ty entry_dict_setitem ?_ (args_dict_setitem _ _ _)));show wpAny _ _ (Builtin.Dict.notOrdered "__setitem__" #[[.ref a,u,r],[]] >>= λ_=>dictSet a u r >>= λ_=>ret Value.none) _ _ s;unfold Builtin.Dict.notOrdered;refine wB ?_;refine wpAny_ite_split (λ_=>?_) (λhab=>absurd (by decide) hab);refine wB (wpAny_typeOf ty ?_);refine xN (by decide) (wpAny_pure ?_);refine wB ?_;unfold dictSet;rw[<-hw]
 have ksok:∀p∈dput kvs k v,keyOk p.1=true:=λp hp'=>by
  rcases K5 hp' with⟨q,hq,e1⟩|e
  .rw[e1];exact ok.ks q hq
  .rw[e];exact ko
 have Aj:DC X.prog W.w H s.heap:=by rw[hw];exact I.Aj
 have By:W.K.In s.heap:=by rw[hK];exact I.Gz
 refine wpAny_holding (wB (JZ Aj By (by first|lia|(rw[in1_units];lia)) ko hx rx λtk=>?_));unfold dictSetHashed;refine wpAny_holding (wB (Mr (s:={s with toks:=tk}) Aj By (by first|lia|(rw[in1_units];lia)) h1 h3 ok hk hx rx (λhno=>?_) λi p hi e=>?_))
 .refine wB (wpAny_rule ?_);refine wpAny_updateDictKeys (s:={s with toks:=tk}) h1 h3 ?_ (by rw[size_toArray];have:=Bw;lia) (by simp);refine wpAny_pure #[_,rfl,wpAny_pure ?_]
  have hnone:¬(kvs.any λq=>decide (q.1=k))=true:=λz=>by
   rintro⟨p,hp',e⟩:any_eq_true.mp z;exact hno p hp' (of_decide_eq_true e)
  have eput:dput kvs k v=kvs++[(k,v)]:=by unfold dput;rw[iN hnone]
  rintro⟨oc,od,oda,os⟩:o;have h3:oda= .dict es.toArray es.length:=h3;subst h3
  have hget:(s.heap.update a (Obj.mapDictKeys λx=>x.push (#[CQ W.w k,u,r]:DictEntry))).get? a=some #[oc,od,.dict (es++[(#[CQ W.w k,u,r]:DictEntry)]).toArray (es++[(#[CQ W.w k,u,r]:DictEntry)]).length,os]:=by
   rw[Heap.get?_update_self _ h1 rfl];show some (Obj.mk oc od (.dict (es.toArray.push (#[CQ W.w k,u,r]:DictEntry)) (es.length+1)) os)=_;rw[List.push_toArray,lA];rfl
  refine h (es++[(#[CQ W.w k,u,r]:DictEntry)]) _ #[?_,GJ ok.nd,ksok,by have:=GK kvs k v;lia,ok.sm] (K7 (s:=s) (t':=tk) I hH (Heap.SameBut.update ..) hget h2);rw[eput];exact Pd.append (Paired.EW ok.pr λ_ _ z=>z.mono (T _)) (.cons #[rfl,#[x,rx,hx.mono (T _)],y,ry,hy.mono (T _)] .nil)
 .refine wB (wpAny_rule ?_);refine wB (wpAny_updateDict (s:={s with toks:=tk}) h1 h3 ?_ (by simp));have hsome:(kvs.any λq=>decide (q.1=k))=true:=any_eq_true.mpr #[p,mem_of_getElem? hi,dZ e];have eput:dput kvs k v=kvs.map λp=>if p.1=k then(p.1,v)else p:=by unfold dput;rw[iP hsome]
  rintro⟨oc,od,oda,os⟩:o;have h3:oda= .dict es.toArray es.length:=h3;subst h3
  have hget:(s.heap.update a (Obj.mapDict λx=>x.modify i λe=>{hash:=e.hash,key:=e.key,val:=r})).get? a=some #[oc,od,.dict (es.modify i λe=>{hash:=e.hash,key:=e.key,val:=r}).toArray (es.modify i λe=>{hash:=e.hash,key:=e.key,val:=r}).length,os]:=by
   rw[Heap.get?_update_self _ h1 rfl];show some (Obj.mk oc od (.dict (es.toArray.modify i _) es.length) os)=_;rw[List.modify_toArray,List.length_modify]
  refine wpAny_point ?_;refine wpAny_pure #[_,rfl,wpAny_pure ?_];refine h (es.modify i λe=>{hash:=e.hash,key:=e.key,val:=r}) _ #[?_,GJ ok.nd,ksok,by have:=GK kvs k v;lia,ok.sm] (K7 (s:=s) (t':=tk) I hH (Heap.SameBut.update ..) hget h2);rw[eput];exact Ha ry (hy.mono (T _)) ok.nd (Paired.EW ok.pr λ_ _ z=>z.mono (T _)) hi e
def aO(W:Wd):QH:=λo i v H Q=>Gm W (Ds λc x k=>Dp c k x) o [v,i] H λ_ H'=>Q H'
theorem Vr(hK:W.K=X.K)(hu:X.A.units + 150 < cLine)(hw:W.w=X.w):TM X (aO W):=by
 intro p0 s Y H o i v ov iv u Q I ro ri rv h;rintro⟨own,bor,c,cs,c',h1,h2,e,q⟩:h;rintro⟨xv,xi,rfl,e⟩:IA e;rintro⟨z1,z2,ez,r1,r2⟩:Ow h2;cases ez;rcases or_some e with e|e
 .obtain⟨ps,ep,e⟩:=Ab e;rintro⟨j,ej,e⟩:Ab e;rintro⟨p,ep2,e⟩:Ab e;rintro⟨n,en,rfl⟩:AU e;cases FY ep;cases C.AW ej;cases C.BO ep2;cases AZ r2;rintro⟨l,vs,rfl,k1,k2,k3⟩:ED h1 q;exact set_list p0 s Y H _ _ v ov iv u Q I ro ri rv #[l,vs,j,n,rfl,rfl,k1,by rw[<-Paired.length k2];exact en,k3 _ .AG (Pd.set (GW r1) n k2)]
 .cases c with
  |Bl b kvs=>
    cases b with
    |false=>cases e
    |true=>
      rintro⟨p,ep,e⟩:Ab (show(xi.H9.bind λk=>xv.H9.bind λv=>if Bk kvs k=true/\kvs.length < big then some (C.Bl true (dput kvs k v))else none)=some c' from e);rintro⟨w,ew,e⟩:Ab e;rintro⟨hk,rfl⟩:A3 e;cases C.BO ep;cases C.BO ew;rintro⟨a,es,rfl,⟨k1,k2⟩,k3⟩:h1;cases ro;refine GO hK hu hw I k1 k3 hk.1 (GW r2) (GW r1) hk.2 ri rv λes' s' ok I'=>#[_,I',q a _ (DX a es') .AG k2 k1 Hz #[a,es',rfl,#[A6,k2],ok]]
  |_=>cases e
end
section
variable{cf:CF}{k:Nat}{ct:Ct}{X:Cx}
theorem O6{α β:Type}{rep:Rp α β}{F:Env->Res α}{Y:L2.St}{H:Hp}{Q Q':β->Hp->Prop}(h:tG W rep F Y H Q)(k:∀b H',Q b H'->Q' b H'):tG W rep F Y H Q':=let⟨U,B,R,z⟩:=h;#[U,B,R,z.imp k]
theorem Rh(L:Bb ct X W cf k){i j:Nat}{ie:Expr}{pos:Pos}(hs:ct.slot y=some j)(hi:IJ ie=false)(he:AR X W cf e t)(hie:AR X W cf ie u):
 PS X (.Assign [.Subscript (.Name y p) ie q] e pos) (rS W cf (.Ce j false (Ds λc x k=>Dp c k x) [t,u])):=by
 have hsw:swapsWithSole [.Subscript (.Name y p) ie q] e pos.line X.env=pure false:=by
  show swapsWith e (some (.Subscript (.Name y p) ie q)) pos.line X.env=pure false;cases e<;>rfl
 have hwp:swappedStores [.Subscript (.Name y p) ie q] e X.env=pure none:=by cases e<;>rfl
 refine C0 (KJ he.v (OK (L.pv hs) hie.v (Vr L.K (by have:=L.un;lia) L.w) ?_) hsw hwp rfl) λD Y H z=>?_
 .intro v;cases ie<;>first|rfl|cases hi
 .obtain⟨Hin,A0,Bo,U,S,hA⟩:=z;replace hA:Bh W Hin A0 Bo [] D Y (if(!(A8 U j).any λ_=>true)=true then .stuck else(BK cf [t,u] U).fl λcs=>match(A8 U j).bind λc=>(Ds λc x k=>Dp c k x) c cs with|some c'=>.nx (U.set j (some c'))|none=>.stuck):=hA;cases hg:A8 U j with
  |none=>rw[hg]at hA;exact hA.elim
  |some c=>
    rw[iN (by rw[hg];simp)]at hA;rintro⟨O,hO⟩:S.env;rintro⟨x,q1,q2⟩:hO j c hg;have z:=Ga (NZ S hA hg q1);refine O6 z λv H1 z=>#[x,q1,?_]
    have z:=Ga z;refine O6 z λw H2 z=>?_
    exact LU z
end
theorem Fi(x:Str):∀l:List Str,AN (l++[x])=if l.contains x then AN l else AN l + 1
 |[]=>rfl
 | a ::l=>by
   have ih:=Fi x l;rw[List.cons_append];have e1:AN (a::(l++[x]))=if(l++[x]).contains a then AN (l++[x])else AN (l++[x])+1:=rfl
   have e2:AN (a::l)=if l.contains a then AN l else AN l+1:=rfl
   rw[e1,e2,ih]
   by_cases hax:x=a
   .subst hax;simp
   .have hxa:¬a=x:=λz=>hax z.symm
    by_cases h1:a∈l<;>by_cases h2:x∈l<;>simp[h1,h2,hax,hxa]
section
variable{prog:Program}{w:World}{A:Around}{R:Result->Shared->Prop}{E:Va}{s:Shared}
abbrev DY(prog:Program)(w:World)(h:Heap)(S:Addr)(l:List Str):Prop:=h.SetOf (PySem.strKind prog w) S (λk=>l.contains k) (AN l)
theorem Hx:∀l:List Str,AN l<=l.length
 |[]=>Nat.le_refl _
 | a::l=>by
   have:=Hx l;show(if l.contains a then AN l else AN l+1)<=l.length+1;split<;>lia
theorem take_snoc{l:List Str}{i:Nat}{x:Str}(h:l[i]? =some x):l.take (i + 1)=l.take i++[x]:=by
 rw[take_add_one,h];rfl
theorem R9{I S ax:Addr}{items:Array Value}{ks:List Str}(hSI:S≠I)(hSa:S≠ax)(haI:ax≠I)(hh:A.in1.handled=none)(hk:∀(i:Nat) (v:Value),items[i]? =some v->∃x t,ks[i]? =some x/\v= .str x t)(hl:ks.length=items.size)(hb:items.size + 1 < scanBound):
 ∀ (m i:Nat) (s:Shared),items.size - i=m->i<=items.size->s.heap.IsTupleIter I ax i->s.heap.IsTuple ax items->DY prog w s.heap S (ks.take i)->
   (∀h' tk,(∀b o,b≠S->b≠I->s.heap.get? b=some o->h'.get? b=some o)->DY prog w h' S ks->R (.ok (.ret .none)) {s with heap:=h',toks:=tk})->
   codeAny (model prog w) A (.builtin "set.update.loop" #[[.ref S,.ref I],[]]) R s:=by
 have W:=Walks.tuple (prog:=prog) (w:=w) hh I ax haI items;have mv:∀{h h':Heap} {l:List Str},(∀o,h.get? S=some o->h'.get? S=some o)->DY prog w h S l->DY prog w h' S l:=λ{h h' l} k ⟨o,es,ep,t,ho,r⟩=>#[o,es,ep,t,k o ho,r]
 intro m
 induction m with
 |zero=>
   intro i s hm hi hit htu hS hR;have hin:i=items.size:=by lia
   subst hin;refine codeAny_builtin F.entry_set_update_loop ?_;rw[Around.under_plainId F.plain_set_update_loop _];show wpAny _ A.in1 (pyNext (.ref I) >>= _) _ _ s;refine wB (W.done s _ _ #[hit,htu] λh' tk k=>?_);show wpAny _ A.in1 (ret Value.none) _ _ _;refine wpAny_pure (hR h' tk (λb o h1 h2 e=>k b o (by simpa using h2) e) ?_);rw[<-hl,take_length]at hS;exact mv (λo e=>k S o (by simpa using hSI) e) hS
 |succ m ih=>
   intro i s hm hi hit htu hS hR;have hlt:i < items.size:=by lia
   refine codeAny_builtin F.entry_set_update_loop ?_;rw[Around.under_plainId F.plain_set_update_loop _];show wpAny _ A.in1 (pyNext (.ref I) >>= _) _ _ s;refine wB (W.item i s _ _ hlt #[hit,htu] λv h1 tk hv st k=>?_);rintro⟨x,t,hx,rfl⟩:hk i v hv;have hS1:=mv (λo e=>k S o (by simpa using hSI) e) hS;show wpAny _ A.in1 (holding [Value.str x t] (setAdd S (.str x t)) >>= _) _ _ _;refine wB (wpAny_holding ?_);unfold setAdd;refine wpAny_holding ?_
   have GD:(PySem.strKind prog w).is x (.str x t)=true:=by
    show Value.isStrOf x (.str x t)=true;simp[Value.isStrOf]
   refine wB ((PySem.strKind prog w).pyHash (k:=x) GD ?_)
   have hroom:AN (ks.take i) + 1 < scanBound:=by
    have:=Hx (ks.take i);rw[length_take]at this
    lia
   refine wpAny_setAddHashed_of (knd:=PySem.strKind prog w) (s:={s with heap:=h1,toks:=tk+1}) GD rfl hS1 hroom λh2 hsb hS2=>?_
   have hS3:DY prog w h2 S (ks.take (i + 1)):=by
    rw[take_snoc hx];refine SetOf_congr hS2 (λk'=>?_) ?_
    .simp[List.contains_eq_mem,Bool.or_comm,eq_comm]
    .rw[Fi]
   have kp:∀b o,b≠S->b≠I->s.heap.get? b=some o->h2.get? b=some o:=λb o n1 n2 e=>by rw[hsb.2 b n1];exact k b o (by simpa using n2) e
   refine wpAny_pure #[plainId_quiet F.plain_set_update_loop _,ih (i+1) _ (by lia) hlt (st.1.at λo e=>by rw[hsb.2 I hSI.symm];exact e) (st.2.at λo e=>by rw[hsb.2 ax hSa.symm];exact e) hS3 λh' tk' k' hS4=>?_];exact hR h' tk' (λb o n1 n2 e=>k' b o n1 n2 (kp b o n1 n2 e)) hS4
end
end Nv
namespace PySem.F
theorem Ju:isSubtype (.type "tuple") (.type "set")=pure false:=by rw[isSubtype_type];kernel_rfl
theorem Il:isSubtype (.type "tuple") (.type "frozenset")=pure false:=by rw[isSubtype_type];kernel_rfl
end PySem.F
namespace Nv
open PySem L2 PyProof.Rows
abbrev Oq(led:Bool):Obj:={cls:=.type "set",dict:=none,data:=.set [].toArray 0 (.fresh 0 0 led)}
section
variable{prog:Program}{w:World}{A:Around}{E:Va}{s:Shared}
variable{ax:Addr}
theorem Ra{S:Addr}{led:Bool}{items:Array Value}{ks:List Str}{Q:Va}(hh:A.handled=none)(hS:s.heap.get? S=some (Oq led))(hSl:S≠ax)(ht:s.heap.IsTuple ax items)
 (hk:∀(i:Nat) (v:Value),items[i]? =some v->∃x t,ks[i]? =some x/\v= .str x t)(hl:ks.length=items.size)(hb:items.size+1 < scanBound)
 (h:∀h' tk,(∀b o,b≠S->b < s.heap.objs.size->s.heap.get? b=some o->h'.get? b=some o)->DY prog w h' S ks->Q .none {s with heap:=h',toks:=tk}):
 wpAny (model prog w) A (Builtin.«set.__init__» #[[.ref S,.ref ax],[]]) (λfin s'=>∃r,fin= .done (.ret r)/\Q r s') E s:=by
 have hT:s.TypeIs (.ref S) "set":=#[_,hS,rfl];have hTt:s.TypeIs (.ref ax) "tuple":=ht.typeIs;have hls:=F.Ju;have hlf:=F.Il;unfold Builtin.«set.__init__» noKeywords Builtin.Frozenset.updateFrom;generalize hPI:pyIter=PI
 wp_walk
 subst hPI;refine wpAny_pyIter_tuple ht ?_;refine wB (wpAny_runValue ?_);have hlt:S < s.heap.objs.size:=hZ hS;rintro⟨ot,hot,r⟩:ht;have hax:ax < s.heap.objs.size:=hZ hot;refine R9 (A:=A) (ks:=ks) (items:=items) (ax:=ax) (Nat.ne_of_lt hlt) hSl (Nat.ne_of_lt hax) (by simp[hh]) hk hl hb items.size 0 _ (by lia) (Nat.zero_le _) ?_ ?_ ?_ λh' tk k hS'=>?_
 .exact#[_,Heap.get?_push_size _ rfl,rfl,rfl]
 .exact#[ot,gP hot,r]
 .exact SetOf_congr ((setObjOf_fresh (knd:=PySem.strKind prog w) led).setOf (gP hS) (by unfold scanBound;lia)) (λ_=>rfl) rfl
 .show wpAny _ _ _ _ _ _;refine wpAny_pure ?_;show wpAny _ _ (ret Value.none) _ _ _;exact wpAny_pure #[_,rfl,h h' tk (λb o n1 n2 e=>k b o n1 (Nat.ne_of_lt n2) (gP e)) hS']
theorem Rb{items:Array Value}{ks:List Str}{Q:Va}(hh:A.handled=none)(ht:s.heap.IsTuple ax items)
 (hk:∀(i:Nat) (v:Value),items[i]? =some v->∃x t,ks[i]? =some x/\v= .str x t)(hl:ks.length=items.size)(hb:items.size+1 < scanBound)
 (h:∀h' tk,(∀b o,s.heap.get? b=some o->h'.get? b=some o)->DY prog w h' s.heap.objs.size ks->Q (.ref s.heap.objs.size) {s with heap:=h',toks:=tk}):
 wpAny (model prog w) A (call (.type "set") [.ref ax]) Q E s:=by
 rintro⟨c,tl,hmro⟩:F.called_set.mro;have hmade:=F.called_set.made;have hsub:=F.called_set.sub;have h1:=F.called_set.notType;have h2:=F.called_set.canCreate;have hct:=F.typeCall_set_1 (.ref ax);refine wpAny_call (codeAny_of_tree ?_);show wpAny _ _ (callAny (.type "set") _) _ _ _;refine wpAny_pure #[Code.quiet_builtin _ #[],codeAny_builtin F.entry_type_call ?_];rw[Around.under_plain (weight_type_call_type "set" [.ref ax] []) rfl]
 repeat (any_goals (first|assumption|wp_step))
 refine codeAny_mono (code_set_new_1 (.ref ax) (E:=E) (Q₁:=λobj s₁=>∃led:Bool,obj= .ref s.heap.objs.size/\s₁={s with heap:=s.heap.push (Oq led)}) λled=>#[led,rfl,rfl]) λr s₁ hr=>?_
 cases r with
 |error e=>exact hr
 |ok fl =>
   cases fl with
   |next=>exact hr.elim
   |brk=>exact hr.elim
   |cont=>exact hr.elim
   |ret obj=>
     rintro⟨led,rfl,rfl⟩:hr;have hS:(s.heap.push (Oq led)).get? s.heap.objs.size=some (Oq led):=Heap.get?_push_size _ rfl;have hT:Shared.TypeIs {s with heap:=s.heap.push (Oq led)} (.ref s.heap.objs.size) "set":=#[_,hS,rfl];have hli:=F.called_set.init.lookup;have hbi:=F.called_set.init.bind (.ref s.heap.objs.size);rintro⟨ot,hot,rt⟩:ht;have hax:ax < s.heap.objs.size:=hZ hot
     repeat (any_goals (first|assumption|wp_step))
     refine codeAny_mono (codeAny_call_builtin (R:=wants (λr s₂=>r= .none/\∃h' tk,s₂={s with heap:=h',toks:=tk}/\DY prog w h' s.heap.objs.size ks/\∀b o,s.heap.get? b=some o->h'.get? b=some o) E) F.called_set.init.plain F.entry_set_init (check_set_init_1 hT ?_)) λr₂ s₂ hr₂=>?_
     .refine wpAny_mono (Ra (E:=E) (A:=A.in1.in1) (led:=led) (Q:=λr s₂=>r= .none/\∃h' tk,s₂={s with heap:=h',toks:=tk}/\DY prog w h' s.heap.objs.size ks/\∀b o,s.heap.get? b=some o->h'.get? b=some o) (by simp[hh]) hS (Nat.ne_of_gt hax) #[ot,gP hot,rt] hk hl hb λh' tk k hS'=>?_) (λfin s' ⟨r,e,q⟩=>?_) λe s' z=>z
      .refine#[rfl,h',tk,rfl,hS',λb o e=>?_];have hbl:=hZ e;exact k b o (Nat.ne_of_lt hbl) (by rw[Heap.size_push];exact Nat.lt_succ_of_lt hbl) (gP e)
      .subst e;exact q
     .cases r₂ with
      |error e=>exact hr₂
      |ok fl₂=>
        cases fl₂ with
        |ret r=>
          rintro⟨rfl,h',tk,rfl,hS',hk'⟩:hr₂
          repeat (any_goals (first|assumption|wp_step))
          exact h _ _ hk' hS'
        |_=>exact hr₂.elim
end
def SX(P:Program)(w:World)(a:Addr)(l:List Str):HO:=.ext λh=>DY P w h a l
section
variable{X:Cx}{W:Wd}{ct:Ct}{cf:CF}{k:Nat}
variable{H:Hp}
theorem Cc.bH{H':Hp}{Q:VK}(q:Cc W H (.p (.int b)) Q)(s:Dc H H'):Q (.int b) H':=q _ _ s (show A5 W H' (.int b) _ from Aa.mpr rfl)
def Yv(te:TE):TE:=λY H Q'=>∃Q,te Y H Q/\∀x H1,Q x H1->Q' x H1
variable{te:TE}
theorem Cj(h:PE X e te):PE X e (Yv te):=λp0 s Y H Q' I ⟨Q,z,k⟩=>AS (h p0 s Y H Q I z) λv s1 ⟨x,H1,I1,r1,q1⟩=>#[x,H1,I1,r1,k x H1 q1]
theorem Rj{xs:List Str}{us:List Value}(h:Paired (λz u=>∃t,u=Value.str z t) xs us)(i:Nat)(u:Value)(e:us[i]? =some u):∃x t,xs[i]? =some x/\u= .str x t:=by
 rintro⟨x,h1,t,h2⟩:Pd.He h e;exact#[x,t,h1,h2]
def aM(W:Wd)(X:Cx):V->Hp->VK->Prop:=λx H Q=>∃ps l,A5 W H (.tup ps) x/\Cv P.BN ps=some l/\l.length < 4000/\∀p,H p=none->Q (.ref p) (upd H p (SX X.prog X.w p l))
theorem Y8(hK:W.K=X.K)(hc:X.calm=true):Hj X (λv=>call (.type "set") [v]) (aM W X):=by
 intro p0 s Y H x u Q I ru h;rintro⟨ps,l,h1,h2,h3,q⟩:h;rintro⟨a,vs,rfl,h4,h5⟩:A9.mp h1;cases ru;rintro⟨its,r2,pl,_⟩:I.tuple (hK▸h4);have hp:=D3 h2 h5 r2;have hl:=Paired.length hp;refine Rb (ks:=l) (items:=its.toArray) (I.ok.hd hc) pl (λi v e=>Rj hp i v (by simpa using e)) (by simpa using hl) (by unfold scanBound;simp only[size_toArray];lia) λh' tk k hS=>?_
 refine#[.ref s.heap.objs.size,upd H s.heap.objs.size (SX X.prog X.w s.heap.objs.size l),I.laid k (Nat.le_refl _) #[hS,?_,λh1 h2 ⟨o,es,ep,t,ho,r⟩ k=>#[o,es,ep,t,k o ho,r]],rfl,q _ (I.Aj.fresh (Nat.le_refl _))];rintro⟨o,es,ep,t,ho,_⟩:hS;exact#[o,ho]
def YH(X:Cx):V->Hp->VK->Prop:=λx H Q=>∃p l,x= .ref p/\H p=some (SX X.prog X.w p l)/\Q (.int (AN l)) H
theorem V0:Hj X (λv=>call (.builtin "len") [v]) (YH X):=by
 intro p0 s Y H x u Q I ru h;rintro⟨p,l,rfl,h1,q⟩:h;cases ru;rintro⟨⟨o,es,ep,t,ho,hex,hd,_,_,hb,hf,hn⟩,_⟩:(show Br X.prog X.w H s.heap p (SX X.prog X.w p l)from I.Aj p _ h1);refine call_len_set ho hex hd hf (by unfold scanBound at hb;lia) #[.int (AN l),H,I.tok _,#[s.toks+1,by rw[hn]],q]
theorem Xd:bootBuiltins "set"=some (.type "set"):=rfl
theorem Qr:bootBuiltins "range"=some (.type "range"):=rfl
variable{pos:Pos}
theorem bU{r:V->Hp->VK->Prop}(hc:Hj X (λv=>call (.builtin f) [v]) r)(L:Bb ct X W cf k)(ho:ct.own x=true)(hv:bootBuiltins x=some (.builtin f))(hp:A7 e=true)(he:PE X e te):PE X (.Call (.Name x p) [e] [] pos) (λY H Q=>te Y H λv H1=>r v H1 Q):=by
 rintro⟨g1,g2,g3,g4⟩:L.ET ho;exact Ai (Dq (G4 hc) g1 g2 hv (AB he Bv (A2 hp [] _)) g4 g3 (A2 hp [] _) rfl) λY H Q z=>z
theorem Xa{r:V->Hp->VK->Prop}(hc:Hj X (λv=>call (.type f) [v]) r)(L:Bb ct X W cf k)(ho:ct.own x=true)(hv:bootBuiltins x=some (.type f))(hp:A7 e=true)(he:PE X e te):PE X (.Call (.Name x p) [e] [] pos) (λY H Q=>te Y H λv H1=>r v H1 Q):=by
 rintro⟨g1,g2,g3,g4⟩:L.ET ho;exact Ai (Hv (G4 hc) g1 g2 hv (AB he Bv (A2 hp [] _)) g4 g3 (A2 hp [] _) rfl) λY H Q z=>z
variable{pos':Pos}
theorem Rm(L:Bb ct X W cf k)(ho:ct.own x=true)(hx:x="len")(ho':ct.own y=true)(hy:y="set")(hp:A7 e=true)(he:PE X e te):PE X (.Call (.Name x p) [.Call (.Name y q) [e] [] pos'] [] pos) (λY H Q=>te Y H λv H1=>BZ W L6 v H1 Q):=by
 subst hx hy;refine Ai (bU V0 L ho Qs rfl (Xa (Y8 L.K L.calm) L ho' Xd hp (Cj he))) λY H Q z=>#[_,z,λv H1 ⟨c1,c,h1,e,q⟩=>?_]
 rintro⟨ps,e1,e⟩:Ab e;rintro⟨xs,e2,e⟩:Ab e;rintro⟨hl,rfl⟩:A3 e;cases C.Bs e1;exact#[ps,xs,GW h1,e2,hl,λp hp=>#[p,xs,rfl,A6,q.bH (Ar hp)]]
def ZM(a:Addr)(n:Int):HO:=.ext λh=>∃t u v,IsRange h a 0 n 1 t u v
def aN(W:Wd):V->Hp->VK->Prop:=λx H Q=>∃n,x= .int n/\∀p,H p=none->Q (.ref p) (upd H p (ZM p n))
theorem R6:Hj X (λv=>call (.type "range") [v]) (aN W):=by
 intro p0 s Y H x u Q I ru h;rintro⟨n,rfl,q⟩:h;rintro⟨t,rfl⟩:ru;refine call_range_1 #[.ref s.heap.objs.size,upd H s.heap.objs.size (ZM s.heap.objs.size n),I.laid (λ_ _ z=>gP z) (Nat.le_refl _) #[#[_,_,_,IsRange.new ..],#[_,Heap.get?_push_size _ rfl],?_],rfl,q _ (I.Aj.fresh (Nat.le_refl _))]
 rintro h1 h2 ⟨t,u,v,hr⟩ k
 exact#[t,u,v,k _ hr]
theorem Nl{n:Nat}{acc:Array Value}(h:ItemsOf (λi v=>∃t,v= .int (0 + (i:Nat) * 1) t) acc n):Vals ((List.range n).map λ(i:Nat)=>V.int i) acc.toList:=by
 have gen:∀(m:Nat) (us:List Value),us.length=m->(∀(j:Nat) (u:Value),us[j]? =some u->∃t,u= .int j t)->Vals ((List.range m).map λ(i:Nat)=>V.int i) us:=by
  intro m
  induction m with
  |zero=>intro us hl _;cases List.eq_nil_of_length_eq_zero hl;exact .nil
  |succ m ih=>
    intro us hl hu;rcases List.eq_nil_or_concat us with rfl|⟨ws,w,rfl⟩
    .cases hl
    rw[List.concat_eq_append]at hl hu ⊢;have hl:ws.length=m:=by simpa using hl
    rw[range_succ,map_append];refine Vals.append (ih ws hl λj u hj=>hu j u ?_) (.cons ?_ .nil)
    .rw[List.getElem?_append_left (List.getElem?_eq_some_iff.mp hj).1];exact hj
    .obtain⟨t,e⟩:=hu m w (by rw[List.getElem?_append_right (by lia)];simp[hl]);exact#[t,e]
 refine gen n acc.toList (by simp[h.1]) λj u hj=>?_
 rintro⟨t,e⟩:h.2 j u (by simpa using hj);exact#[t,by rw[e];congr 1;lia]
theorem MY(n:Int):Cw W H (Az 0 n) ((List.range n.toNat).map λ(i:Nat)=>V.int i):=by
 have gen:∀l:List Nat,Cw W H (l.map λ(k:Nat)=>P.int (0 + (k:Nat))) (l.map λ(i:Nat)=>V.int i):=by
  intro l
  induction l with
  |nil=>exact .nil
  |cons a l ih=>exact .cons (Aa.mpr (by rw[Int.zero_add])) ih
 have:=gen (List.range n.toNat);unfold Az;rw[Int.sub_zero];exact this
def aQ(W:Wd):V->Hp->VK->Prop:=λx H Q=>∃p n,x= .ref p/\H p=some (ZM p n)/\n.natAbs < 2 ^ 61/\n.toNat<=big/\∀l,H l=none->Q (.ref l) (upd H l (.lst ((List.range n.toNat).map λ(i:Nat)=>V.int i)))
theorem NS(hc:X.calm=true):Hj X (λv=>call (.type "list") [v]) (aQ W):=by
 intro p0 s Y H x u Q I ru h;rintro⟨p,n,rfl,h1,hn,hb,q⟩:h;cases ru;rintro⟨⟨t,u,v,hr⟩,_⟩:(show Br X.prog X.w H s.heap p (ZM p n)from I.Aj p _ h1);have hbb:big=100000:=rfl;refine call_list_range (n:=n.toNat) (I.ok.hd hc) hr (small_one (by lia) (by lia) (by lia) (by lia)) (by rw[rangeSize_one];split<;>lia) (by lia) λh' tk acc c' kp e hi=>?_
 have rv:=Nl hi;refine#[.ref s.heap.objs.size,_,I.laid (t':=tk) (o:=.lst _) kp (Nat.le_refl _) #[?_,acc.toList,c',rv,by rw[e]],rfl,q _ (I.Aj.fresh (Nat.le_refl _))];have:=Bw;rw[lM,length_range]
 lia
theorem MS(L:Bb ct X W cf k)(ho:ct.own x=true)(hx:x="list")(ho':ct.own y=true)(hy:y="range")(hp:A7 e=true)(he:PE X e te):PE X (.Call (.Name x p) [.Call (.Name y q) [e] [] pos'] [] pos) (λY H Q=>te Y H λv H1=>BZ W En v H1 Q):=by
 subst hx hy;refine Ai (Xa (NS (W:=W) L.calm) L ho J5 rfl (Xa (R6 (W:=W)) L ho' Qr hp (Cj he))) λY H Q z=>#[_,z,λv H1 ⟨c1,c,h1,e,q⟩=>?_]
 rintro⟨ps,e1,e⟩:Ab e;rintro⟨hl,rfl⟩:A3 e;rintro⟨n,en,e1⟩:Ab e1;rintro⟨hn,rfl⟩:A3 e1;cases C.AW en;cases AZ h1;have hl:n.toNat<=big:=by simpa[Az]using hl
 exact#[n,rfl,λp hp=>#[p,n,rfl,A6,hn,hl,λl hl=>q _ _ ((Ar hp).trans (Ar hl)) #[l,_,rfl,#[A6,(Ext.of (Ar (o:=ZM p n) hp)).none hl],MY n]]]
theorem Rn(L:Bb ct X W cf k)(ho:ct.own x=true)(hx:x="list")(ho':ct.own y=true)(hy:y="reversed")(hp:A7 e=true)(he:PE X e te):PE X (.Call (.Name x p) [.Call (.Name y q) [e] [] pos'] [] pos) (λY H Q=>te Y H λv H1=>BZ W Pp v H1 Q):=by
 subst hx hy;rintro⟨g1,g2,_⟩:L.ET ho;rintro⟨g3,g4,_⟩:L.ET ho';refine Ai (KO L.calm g1 g2 g3 g4 (Cj he) (A2 hp [] _) rfl) λY H Q z=>#[_,z,λv H1 ⟨c1,c,h1,e,q⟩=>?_]
 rintro⟨ps,e1,rfl⟩:AU e;cases C.Bs e1;rintro⟨a,vs,rfl,k1,k2⟩:CH h1;exact#[a,vs,rfl,L.K▸k1,q.list (Pd.reverse k2)]
theorem VY(L:Bb ct X W cf k){g:C->Option C}{e:Expr}(h:special ct x (.Call (.Name y q) [e] [] pos')=some g)(hp:A7 e=true)(he:PE X e te):PE X (.Call (.Name x p) [.Call (.Name y q) [e] [] pos'] [] pos) (λY H Q=>te Y H λv H1=>BZ W g v H1 Q):=by
 have key:∀{z:Str},(ct.DW z (.Call (.Name y q) [e] [] pos')).isSome=true->y=z/\ct.own y=true:=λ{z} h=>by
  rintro⟨a,ha⟩:Option.isSome_iff_exists.mp h;rintro⟨_,_,he,ho⟩:CU ha;cases he;exact#[rfl,ho]
 unfold special at h;split at h
 .rename_i hc;cases h;simp only[bA,decide_eq_true_eq]at hc;rintro⟨k1,k2⟩:key hc.2;exact Rn L hc.1.1 hc.1.2 k2 k1 hp he
 split at h
 .rename_i hc;cases h;simp only[bA,decide_eq_true_eq]at hc;rintro⟨k1,k2⟩:key hc.2;exact MS L hc.1.1 hc.1.2 k2 k1 hp he
 .obtain⟨hc,rfl⟩:=A3 h;simp only[bA,decide_eq_true_eq]at hc;rintro⟨k1,k2⟩:key hc.2;exact Rm L hc.1.1 hc.1.2 k2 k1 hp he
theorem S5{ks:List (Option Expr)}{vs:List Expr}(h:(ks.isEmpty && vs.isEmpty)=true):PE X (.Dict ks vs pos) (λY H Q=>Cc W H (.Bl true []) Q):=by
 rw[bA]at h;cases isEmpty_iff.mp h.1;cases isEmpty_iff.mp h.2;intro p0 s Y H Q I q;have hsm:(s.heap.objs.size == sysModules)=false:=beq_eq_false_iff_ne.mpr (Ne.symm (Nat.ne_of_lt I.big));have fr:=I.Aj.fresh (Nat.le_refl s.heap.objs.size);refine wpAny_Dict_empty #[.ref s.heap.objs.size,_,I.laid (a:=s.heap.objs.size) (o:=DX s.heap.objs.size []) (t':=s.toks) (λ_ _ q=>gP q) (Nat.le_refl _) ?_,rfl,q _ _ (Ar fr) #[_,[],rfl,#[A6,fr],.nil,.nil,(λ_ z=>(by cases z)),(Nat.zero_le _),hsm]];have hg:(s.heap.push {cls:=.type "dict",data:=.dict [].toArray}).get? s.heap.objs.size=some {cls:=.type "dict",data:=.dict [].toArray}:=Heap.get?_push_size _ rfl;refine#[#[_,hg,#[rfl,rfl,rfl],rfl],#[_,hg],?_]
 rintro h1 h2 ⟨o,q1,q2,q3⟩ k
 exact#[o,k o q1,q2,q3]
end
section
variable{prog:Program}{w:World}{A:Around}{R:Result->Shared->Prop}
theorem QE{I ax:Addr}{items:Array Value}{b:Nat->Bool}{h0:Heap}(haI:ax≠I)(hh:A.in1.handled=none)
 (tr:∀(i:Nat) (v:Value),items[i]? =some v->∀s:Shared,(∀b o,b≠I->h0.get? b=some o->s.heap.get? b=some o)->∀(Q:Bool->Shared->Prop) (E:Va),(∀tk,Q (b i) {s with toks:=tk})->wpAny (model prog w) A.in1 (truthy v) Q E s):
 ∀ (m i:Nat) (s:Shared),items.size - i=m->i<=items.size->s.heap.IsListIter I ax i->s.heap.IsList ax items->(∀b o,b≠I->h0.get? b=some o->s.heap.get? b=some o)->
   (∀h' tk,(∀b o,b≠I->h0.get? b=some o->h'.get? b=some o)->R (.ok (.ret (.bool (((List.range items.size).drop i).any b)))) {s with heap:=h',toks:=tk})->
   codeAny (model prog w) A (.builtin "any.loop" #[[.ref I],[]]) R s:=by
 have W:=Walks.list (prog:=prog) (w:=w) hh I ax haI items;intro m
 induction m with
 |zero=>
   intro i s hm hi hit hl hk hR;have hin:i=items.size:=by lia
   subst hin;refine codeAny_builtin F.entry_any_loop ?_;rw[Around.under_plainId F.plain_any_loop _];show wpAny _ A.in1 (pyNext (.ref I) >>= _) _ _ s;refine wB (W.done s _ _ #[hit,hl] λh' tk k=>?_);refine wB (wpAny_rule (wpAny_pure ?_));have:=hR h' tk λb o h1 h2=>k b o (by simpa using h1) (hk b o h1 h2)
   rwa[List.drop_of_length_le (by simp)]at this
 |succ m ih=>
   intro i s hm hi hit hl hk hR;have hlt:i < items.size:=by lia
   have ed:(List.range items.size).drop i=i::(List.range items.size).drop (i + 1):=by
    rw[drop_eq_getElem_cons (by simpa using hlt)];simp
   refine codeAny_builtin F.entry_any_loop ?_;rw[Around.under_plainId F.plain_any_loop _];show wpAny _ A.in1 (pyNext (.ref I) >>= _) _ _ s;refine wB (W.item i s _ _ hlt #[hit,hl] λv h' tk hv ⟨hit',hl'⟩ k=>?_);have hk':∀b o,b≠I->h0.get? b=some o->h'.get? b=some o:=λb o h1 h2=>k b o (by simpa using h1) (hk b o h1 h2)
   refine wB (wpAny_holding (tr i v hv _ hk' _ _ λtk'=>?_));refine wB (wpAny_letGo ?_);cases hb:b i with
   |true=>
     refine wB (wpAny_rule (wpAny_pure ?_));have:=hR h' tk' hk';rw[ed,any_cons,hb,Bool.true_or]at this;exact this
   |false=>
     refine wpAny_pure #[plainId_quiet F.plain_any_loop _,ih (i+1) _ (by lia) hlt hit' hl' hk' λh'' tk'' k''=>?_];have:=hR h'' tk'' k'';rw[ed,any_cons,hb,Bool.false_or]at this;exact this
end
theorem Xi:bootBuiltins "any"=some (.builtin "any"):=by decide +kernel
variable{X:Cx}{W:Wd}
theorem Rc{p0:Oa}{Y:L2.St}{H:Hp}{s:Shared}(I:∅){b:Bool}(e:MP p=some b)(h:A5 W H p v)(r:RelV v u):
 (u= .bool b)\/∃l its,u= .ref l/\s.heap.IsList l its/\(its.size:Int) < 2 ^ 63/\(!its.isEmpty)=b:=by
 cases p with
 |bl c=>cases e;cases Cz.mp h;cases r;exact .inl rfl
 |box t ps=>
   cases t with
   |succ _=>cases e
   |zero=>
     cases e;rintro⟨a,vs,rfl,⟨_,o,k1⟩,k2⟩:CN.mp h;cases r;rintro⟨its,rv,pl,hz⟩:I.list (xs:=vs) (show DO X.K H a vs from .inl (.inr #[o,k1]));have l1:=Paired.length k2;have l2:=rv.length;refine .inr #[a,its.toArray,rfl,pl.isList,?_,?_]
     .have:sizeLine < 2 ^ 62:=by decide
      simp
      lia
     .cases ps with
      |nil=>cases k2;cases rv;rfl
      |cons _ _=>cases k2;cases rv;rfl
 |_=>cases e
variable{α:Type}
theorem MG{f:P->Option α}:∀{ps:List P} {bs:List α} {i:Nat} {p:P},Cv f ps=some bs->ps[i]? =some p->∃b,bs[i]? =some b/\f p=some b
 |[],bs,i,p,_,h=>by cases h
 | q::ps,bs,i,p,e,h=>by
   rintro⟨b,e1,e⟩:Ab e;rintro⟨cs,e2,rfl⟩:AU e;cases i with
   |zero=>cases h;exact#[b,rfl,e1]
   |succ i=>exact MG (i:=i) e2 h
theorem Ko{f:P->Option α}:∀{ps:List P} {bs:List α},Cv f ps=some bs->bs.length=ps.length
 |[],bs,e=>by cases e;rfl
 | q::ps,bs,e=>by
   rintro⟨b,e1,e⟩:Ab e;rintro⟨cs,e2,rfl⟩:AU e;rw[lC,lC,Ko e2]
theorem any_range(bs:List Bool):(List.range bs.length).any (λi=>(bs[i]?).getD false)=bs.any id:=by
 rw[Bool.eq_iff_iff,any_eq_true,any_eq_true];constructor
 .rintro⟨i,hi,h⟩
  have hi:=mem_range.mp hi;rw[List.getElem?_eq_getElem hi]at h;exact#[_,getElem_mem hi,h]
 .rintro⟨b,hb,h⟩
  rintro⟨i,hi,e⟩:mem_iff_getElem.mp hb;exact#[i,mem_range.mpr hi,by rw[List.getElem?_eq_getElem hi,e];exact h]
theorem Yb(hc:X.calm=true):Hj X (λv=>call (.builtin "any") [v]) (BZ W anyC):=by
 rintro p0 s Y H x v Q I rx ⟨c1,c,h1,e,q⟩
 rintro⟨ps,e1,e⟩:Ab e;rintro⟨bs,e2,rfl⟩:AU e;rintro⟨l,vs,rfl,k1,k2⟩:Bn e1 h1;cases rx;rintro⟨its,rv,pl,hz⟩:I.list (show DO X.K H l vs from .inl k1);have l1:=Paired.length k2;have l2:=rv.length;have l3:=Ko e2;have lt:l < s.heap.objs.size:=hZ pl.isList.choose_spec.1;refine call_function_tree F.kind_any F.plain_any F.entry_any (F.args_any1 _) ?_;show wpAny _ X.A.in1 (pyIter (.ref l) >>= λit=>again (.builtin "any.loop" #[[it],[]])) _ _ s;refine wB (wpAny_pyIter_list pl.isList ?_);refine wpAny_pure #[plainId_quiet F.plain_any_loop _,?_];refine QE (h0:=s.heap) (b:=λi=>(bs[i]?).getD false) (Nat.ne_of_lt lt) (show X.A.in1.handled=none from I.ok.hd hc) (items:=its.toArray) ?_ _ 0 _ rfl (Nat.zero_le _) #[_,Heap.get?_push_size _ rfl,rfl,rfl] (pl.isList.at λo e=>gP e) (λb o _ e=>gP e) ?_
 .intro i u hu s' hk Q' E' hQ;rw[List.getElem?_toArray]at hu;rintro⟨y,hy,ry⟩:Pd.He (show Paired RelV vs its from rv) hu;rintro⟨p,hp,rp⟩:Pd.He k2 hy;rintro⟨b,hb,eb⟩:MG e2 hp;replace hQ:∀tk,Q' ((bs[i]?).getD false) {s' with toks:=tk}:=hQ;rw[hb]at hQ;rcases Rc I eb rp ry with rfl|⟨a,js,rfl,z1,z2,rfl⟩
  .exact wpAny_truthy_bool (hQ _)
  .exact wpAny_truthy_list (z1.at λo e=>hk a o (Nat.ne_of_lt (hZ e)) e) z2 (hQ _)
 .intro h' tk hk;rw[drop_zero,size_toArray,show its.length=bs.length by lia,any_range];exact#[.bl (bs.any id),H,I.kept (t':=tk) λb o e=>hk b o (Nat.ne_of_lt (hZ e)) e,rfl,q.bl]
section
variable{prog:Program}{w:World}{A:Around}{E:Va}{s:Shared}{d it:Addr}{es:List DictEntry}{ep i:Nat}
theorem Qd{Q:Va}(lo:(d == sysModules)=false)(hm:Ci s.heap d es ep)
 (q:Q (.ref s.heap.objs.size) {s with heap:=s.heap.push {cls:=.type "dict_keyiterator",data:=.fields [.ref d,.int 0 0,.int es.length 0,.int ep 0].toArray}}):wpAny (model prog w) A (pyIter (.ref d)) Q E s:=by
 have ty:=hm.typ;rintro⟨o,h1,h2,h3⟩:hm;refine wpAny_pyIter_slot ty PySem.F.slot_dict_iter (wpAny_call_entry PySem.F.slot_dict_iter ty PySem.F.entry_dict_iter ?_ (PySem.F.args_dict_iter_1 _));unfold Builtin.«dict.__iter__» Builtin.Dict.dictSlotNone;refine wB ?_;refine wB (wpAny_notOrdered_dict ty ?_);show wpAny _ _ (pure (Value.ref d)) _ _ s;refine wpAny_pure ?_;show wpAny _ _ (Builtin.Dict.showsAll d >>= _) _ _ s;unfold Builtin.Dict.showsAll;rw[iN (by rw[lo];exact Bool.false_ne_true)];refine wB (wpAny_pure ?_);refine wB (wpAny_dictEntries h1 h3 (wB (wpAny_dictEpoch h1 h3 (wB (wpAny_newObj_type (wpAny_pure #[_,rfl,"dict_keyiterator",_,#[_,Heap.get?_push_size _ rfl,rfl],PySem.F.slot_dict_keyiterator_next.lookup,?_]))))));simpa[rawInt]using q
theorem Qc{Q:Option Value->Shared->Prop}(hit:s.heap.IsKeyIter it d i es.length ep)(hm:Ci s.heap d es ep){e:DictEntry}(hx:es[i]? =some e)
 (q:∀h',h'.IsKeyIter it d (i+1) es.length ep->Heap.SameBut it s.heap h'->Q (some e.key) {s with heap:=h'}):wpAny (model prog w) A (pyNext (.ref it)) Q E s:=by
 have ty:=hit.typeIs;rintro⟨oi,i1,i2,i3⟩:hit;rintro⟨o,h1,h2,h3⟩:hm;unfold pyNext;refine wB (wpAny_attempt (wpAny_callSpecial?_slot (name:=Str.ofString "__next__") ty PySem.F.slot_dict_keyiterator_next (wpAny_call_entry PySem.F.slot_dict_keyiterator_next ty PySem.F.entry_dict_keyiterator_next ?_ (PySem.F.args_dict_keyiterator_next_1 _))));refine wB (wpAny_pure ?_);refine wB ?_;refine wB ?_;refine wB (wpAny_typeNameOfWhole_keyiter ty (wpAny_pure (wB (wpAny_fieldsOf i1 i3 ?_))));simp only[show Builtin.Dict_items.ownsTuple "dict_keyiterator"=false from by decide,Bool.false_eq_true,if_false];show wpAny _ _ (ite ((Value.ref d == Value.none)=true) _ _) _ _ s;rw[iN (λz:(Value.ref d == Value.none)=true=>Bool.false_ne_true z)];refine wB (wpAny_pure ?_);refine wB (wpAny_dictEntries h1 h3 ?_);rw[iN (by simp)];refine wB (wpAny_pure ?_);refine wB (wpAny_dictEpoch h1 h3 ?_);rw[iN (by simp)];have he:es.toArray[i]? =some e:=by rw[List.getElem?_toArray];exact hx
 refine wpAny_pure ?_;simp only[show ¬((i:Int) < 0)from by lia,if_false,Int.toNat_natCast,he];refine wB ?_;refine wB (wpAny_typeNameOfWhole_keyiter ty (wpAny_pure (wB (wpAny_isOneOf_keyiter ty ?_))));show wpAny _ _ (setField (.ref it) 1 (rawInt ((i:Int)+1)) >>= _) _ _ s;refine wB (wpAny_setField i1 i3 (by simp) ?_)
 have st:(s.heap.update it (Obj.mapFields (·.setIfInBounds 1 (rawInt ((i:Int) + 1))))).IsKeyIter it d (i + 1) es.length ep:=by
  refine#[_,Heap.get?_update_self _ i1 (Obj.isFreed_of_fields (Obj.data_mapFields i3 _)),(Obj.cls_mapFields ..).trans i2,?_];rw[Obj.data_mapFields i3];simp[rawInt]
 refine wB ?_;refine wpAny_holding (wB (wpAny_isOneOf_keyiter (s:={s with heap:=_}) st.typeIs ?_));show wpAny _ _ (pure e.key) _ _ _;exact wpAny_pure (wpAny_pure #[_,rfl,wpAny_pure (q _ st (Heap.SameBut.update ..))])
theorem T7{Q:Option Value->Shared->Prop}(hh:A.handled=none)(hit:s.heap.IsKeyIter it d i es.length ep)(hm:Ci s.heap d es ep)(hx:es.length<=i)
 (q:∀h',Heap.ExtBut it s.heap h'->Q none {s with heap:=h'}):wpAny (model prog w) A (pyNext (.ref it)) Q E s:=by
 have ty:=hit.typeIs;rintro⟨oi,i1,i2,i3⟩:hit;rintro⟨o,h1,h2,h3⟩:hm;unfold pyNext;refine wB (wpAny_attempt (wpAny_callSpecial?_slot (name:=Str.ofString "__next__") ty PySem.F.slot_dict_keyiterator_next (wpAny_call_entry PySem.F.slot_dict_keyiterator_next ty PySem.F.entry_dict_keyiterator_next ?_ (PySem.F.args_dict_keyiterator_next_1 _))));refine wB (wpAny_pure ?_);refine wB ?_;refine wB ?_;refine wB (wpAny_typeNameOfWhole_keyiter ty (wpAny_pure (wB (wpAny_fieldsOf i1 i3 ?_))));simp only[show Builtin.Dict_items.ownsTuple "dict_keyiterator"=false from by decide,Bool.false_eq_true,if_false];show wpAny _ _ (ite ((Value.ref d == Value.none)=true) _ _) _ _ s;rw[iN (λz:(Value.ref d == Value.none)=true=>Bool.false_ne_true z)];refine wB (wpAny_pure ?_);refine wB (wpAny_dictEntries h1 h3 ?_);rw[iN (by simp)];refine wB (wpAny_pure ?_);refine wB (wpAny_dictEpoch h1 h3 ?_);rw[iN (by simp)];refine wpAny_pure ?_;have he:es.toArray[i]? =none:=by rw[List.getElem?_toArray];exact List.getElem?_eq_none hx
 simp only[show ¬((i:Int) < 0)from by lia,if_false,Int.toNat_natCast,he];refine wB ?_;refine wB (wpAny_typeNameOfWhole_keyiter ty (wpAny_pure ?_));show wpAny _ _ (setField (.ref it) 0 .none >>= _) _ _ s;refine wB (wpAny_setField i1 i3 (by simp) ?_);show wpAny _ _ (newExc (.type "StopIteration") [] >>= _) _ _ _;refine wB ?_;simp only[newExc,newTuple];refine wB (wpAny_newObj_type (wB (m:=firstArgMember _ _) (wpAny_of_eq (a:=Value.none) (by first|rfl|(simp only[firstArgMember];rfl)) (wpAny_newObj_type ?_ (by size_fits)))) (by size_fits));simp only[raiseNew];refine wB ?_;refine wpAny_handled ?_;rw[show A.in1.handled=none from hh];refine wB (wpAny_pure ?_);refine wpAny_throw (wB (wpAny_isInstance (T:="StopIteration") (b:=true) #[_,Heap.get?_push_size _ rfl,rfl] isSubtype_stop (wpAny_pure (q _ ?_))));exact((Heap.SameBut.update ..).extBut.push _).push _
end
section
variable{prog:Program}{w:World}{A:Around}{es:List DictEntry}{ep:Nat}
def QJ(es:List DictEntry)(i:Nat)(v:Value):Prop:=∃e,es[i]? =some e/\v=e.key
theorem Nu(hh:A.handled=none)(I d:Addr)(hne:d≠I):Walks prog w A I [I,d] [I] es.length (QJ es) (λi h=>h.IsKeyIter I d i es.length ep/\Ci h d es ep) where
 sub:=λb hb=>by rw[mE hb];exact mS
 frame:=λi h h' x k=>#[x.1.at (k I mS),x.2.at' (k d (mem_cons_of_mem _ mS))]
 item:=λi s Q E hi x q=>by
  refine Qc x.1 x.2 (List.getElem?_eq_getElem hi) λh' y sb=>q _ h' s.toks #[_,List.getElem?_eq_getElem hi,rfl] #[y,x.2.at' λo e=>(sb.2 d hne).trans e] λb o hb e=>?_
  exact(sb.2 b λz=>hb (mem_singleton.mpr z)).trans e
 done:=λs Q E x q=>T7 hh x.1 x.2 (Nat.le_refl _) λh' eb=>q h' s.toks λb o hb e=>eb b o (λz=>hb (mem_singleton.mpr z)) e
 self:=λi s Q E x q=>wpAny_pyIter_keyiter x.1 q
theorem Lx{h:Heap}(x:Ci h d es ep):d < h.objs.size:=let⟨_,h1,_⟩:=x;hZ h1
theorem T6{d:Addr}(lo:(d == sysModules)=false):KdlSrc prog w "dict" d d es.length (QJ es) (λh=>Ci h d es ep) where
 type:=λs x=>x.typ
 there:=λh x=>#[Lx x,Lx x]
 keep:=λh h' x k=>x.at' (k d (.inl rfl))
 notList:=by decide
 notTuple:=by decide
 hint:=λA E s Q x q=>PySem.W.kdl_hint_dict x.typ q
 iter:=λA s hh x=>#[_,_,λE Q q=>Qd lo x q,Nu hh _ d (Nat.ne_of_lt (Lx x)),#[#[_,Heap.get?_push_size _ rfl,rfl,rfl],x.at' λo e=>gP e]]
end
variable{H:Hp}
theorem HD:∀{kvs:List (P×P)} {es:List DictEntry},Paired (FC W H) kvs es->∃vs,Vals vs (es.map (·.key))/\Cw W H (kvs.map (·.1)) vs
 |_,_,.nil=>#[[],.nil,.nil]
 | _,_,.cons r t=>by
   rintro⟨vs,h1,h2⟩:HD t;rintro⟨k,rk,hk⟩:r.2.1;exact#[k::vs,.cons rk h1,.cons hk h2]
theorem Lb{es:List DictEntry}{acc:Array Value}(h:ItemsOf (QJ es) acc es.length):acc.toList=es.map (·.key):=by
 apply ext_getElem?;intro j;have hsz:acc.size=es.length:=h.1
 by_cases hj:j < es.length
 .obtain⟨e,h1,h2⟩:=h.2 j (acc[j]'(by lia)) (by simp[hsz,hj]);rw[List.getElem?_map,h1,Option.map_some,<-h2];simp[hsz,hj]
 .rw[List.getElem?_eq_none (by simp;lia),List.getElem?_eq_none (by simp;lia)]
section
variable{ct:Ct}{cf:CF}{k:Nat}{p0:Oa}{Y:L2.St}{s:Shared}
theorem Gk(hK:W.K=X.K){own bor:Addr->Prop}{c:C}{kvs:List (P×P)}(I:∅)(e:c.Td =some kvs)(h:AF W H own bor c v):∃a es ep,v= .ref a/\Ci s.heap a es ep/\DD W H a kvs es:=by
 cases c with
 |Bl o qs=>
   cases e;rintro⟨a,es,e1,e2,e3⟩:h
   have key:(∃ep,Ci s.heap a es ep):=by
    cases o with
    |true=>exact#[_,Qh I e2.1]
    |false=>
      rcases e2 with e2|⟨ob,g1,g2,ep,g3⟩
      .exact#[_,Qh I e2.1]
      .exact#[ep,ob,I.Gz a ob (hK▸g1),g2,g3]
   rintro⟨ep,e4⟩:key;exact#[a,es,ep,e1,e4,e3]
 |_=>cases e
theorem UZ(L:Bb ct X W cf k):Hj X (λv=>call (.type "list") [v]) (BZ W CP):=by
 rintro p0 s Y H x v Q I rx ⟨c1,c,h1,e,q⟩
 rcases or_some e with e|e
 .obtain⟨ps,e1,rfl⟩:=AU e;rintro⟨a,vs,rfl,k1,k2⟩:ES e1 h1;exact J1 p0 s Y H [.ref a] [v] Q I (.cons rx .nil) #[a,vs,rfl,L.K▸k1,q.list k2]
 rcases or_some e with e|e
 .obtain⟨ps,e1,e⟩:=Ab e;rintro⟨_,rfl⟩:A3 e;rintro⟨z,ez,e1⟩:Ab e1;rintro⟨hl,rfl⟩:A3 e1;cases C.Bt ez;cases BI h1;exact R7 L.calm I rx hl q
 .obtain⟨kvs,e1,rfl⟩:=AU e;rintro⟨a,es,ep,rfl,hd,ok⟩:Gk L.K I e1 h1;cases rx;rintro⟨vs,v1,v2⟩:HD ok.pr;have hlen:=Paired.length ok.pr;have hz:kvs.length<=sizeLine:=Nat.le_trans ok.len Bw;refine PySem.W.kdl_call (T6 ok.sm) (I.ok.hd L.calm) hd (by lia) λh' tk acc c' hk hS hacc=>?_
  have eacc:=Lb hacc;have hS:h'.get? s.heap.objs.size=some (seqObj "list" (es.map (·.key)).toArray c'):=by rw[hS,<-eacc];try simp[seqObj]
  refine#[.ref s.heap.objs.size,_,I.laid (t':=tk) (o:=.lst vs) hk (Nat.le_refl _) ?_,rfl,q.list v2 _ (I.Aj.fresh (Nat.le_refl _))];have:=Paired.length v2;exact#[by rw[<-this,lM];exact hz,es.map (·.key),c',v1,hS]
theorem W5(L:Bb ct X W cf k){g:C->Option C}{pos:Pos}{te:TE}(ho:ct.own x=true)(hb:aj x=some g)(hp:A7 e=true)(he:PE X e te):PE X (.Call (.Name x p) [e] [] pos) (λY H Q=>te Y H λv H1=>BZ W g v H1 Q):=by
 unfold aj at hb;split at hb
 .rename_i hx;subst hx;cases hb;exact T3 L (Ya L.K) ho Qs hp he
 split at hb
 .rename_i hx;subst hx;cases hb;exact Zy L (UZ L) ho J5 hp he
 split at hb
 .rename_i hx;subst hx;cases hb;exact Zy L (Y5 L.K) ho Ki hp he
 split at hb
 .rename_i hx;subst hx;cases hb;exact T3 L (Yc L.calm) ho Xj hp he
 split at hb
 .rename_i hx;subst hx;cases hb;exact T3 L (Yb L.calm) ho Xi hp he
 .obtain⟨rfl,rfl⟩:=A3 hb;exact T3 L Yd ho Xk hp he
end
section
variable{ct:Ct}{cf:CF}{k:Nat}
theorem MD(h:Uq o=true)(name:Str)(env:PySem.Env)(w:Sem Value):attributeBase o name env w=w:=by
 cases o<;>first|rfl|cases h
variable{to te:TE}{ap:Pos}
theorem Uo{T id:String}{name:Str}{g:C->C->Option C}{cp:Pos}(pa:PlainAttrs T)(slot:Slot T name id)(hty:typeOf (.builtin id)=pure (.type "method_descriptor"))
 (typ:∀{p0 s Y H c y r x v},∅->Dj W H c x->g c y=some r->RelV x v->s.TypeIs v T/\∀b,v= .ref b->∃ob,s.heap.get? b=some ob/\ob.dict=none)
 (hm:∀{p0 s Y H x y v u Q},∅->RelV x v->RelV y u->AV W g x y H Q->(X|||(call (.builtin id) [v,u])) (EP X p0 Y Q) X.xe s)
 (hmo:Ja 1 ap cp=true)(hn:Uq o=true)(he:A7 e=true)(po:PE X o to)(pe:PE X e te):
 PE X (.Call (.Attribute o name ap) [e] [] cp) (λY H Q=>to Y H λx H1=>(∃c y r,Dj W H1 c x/\g c y=some r)/\te Y H1 λy H2=>AV W g x y H2 Q):=by
 intro p0 s Y H Q I h;refine wpAny_Call_method_late (MD hn _ _ _) (ZA he) (CO hmo) rfl (AS (po p0 s Y H _ I h) λv s1 ⟨x,H1,I1,r1,⟨c,y,r,hc,hg⟩,q1⟩=>?_);rintro⟨h1,h2⟩:typ I1 hc hg r1;refine#[T,id,pa,slot,hty,h1,h2,?_];have hA:=(AB pe Bv (A2 he [] _)) cp p0 s1 Y H1 (Sb λy H2=>AV W g x y H2 Q) I1 q1;rw[A2 he [] X.env]at hA ⊢;refine Calls.callWith_builtin (by rfl) (Calls.evalArgs_plain ?_);refine AS hA λus s2 ⟨vs,H2,I2,r2,q2⟩=>?_
 rintro⟨y',rfl,q2⟩:IB q2;cases r2 with
 |cons r3 r4=>
   cases r4;exact hm I2 r1 r3 q2
variable{p0:Oa}{s:Shared}{H:Hp}
theorem Wu(L:Bb ct X W cf k){Y:L2.St}{Q:VK}(I:∅)(rx:RelV x v)(ry:RelV y u)(h:AV W Eu x y H Q):(X|||(call (.builtin "dict.get") [v,u])) (EP X p0 Y Q) X.xe s:=by
 rintro⟨c1,c2,c,h1,h2,e,q⟩:h;rintro⟨kvs,e1,e⟩:Ab e;rintro⟨p,e2,e⟩:Ab e;rintro⟨hk,rfl⟩:A3 e;cases C.BO e2;rintro⟨a,es,ep,rfl,hd,ok⟩:Gk L.K I e1 h1;cases rx;refine wpAny_call_entry PySem.F.slot_dict_get hd.typ PySem.F.entry_dict_get ?_ (PySem.F.args_dict_get_2 _ _);show wpAny _ _ (dictGet a u >>= _) _ _ s;rw[<-L.w];refine wB (GP (by rw[L.w];exact I.Aj) (by rw[L.K];exact I.Gz) (by have:=L.un;first|lia|(rw[in1_units];lia)) hd ok hk (GW h2) ry (λz tk=>?_) λp y z hz hy rz tk=>wpAny_pure #[_,rfl,?_])
 .show wpAny _ _ (Builtin.Dict.missed a u >>= _) _ _ _;rw[z]at q;exact wB (wpAny_missed_other ok.sm (wpAny_pure #[_,rfl,.AG,H,I.tok tk,rfl,q.plain (Dn.mpr rfl)]))
 .rw[hz]at q;exact#[y,H,I.tok tk,rz,q.plain hy]
theorem WW:∀{xs:List Str} {us:List Value} {x:Str} {j:Nat},Paired (λz u=>∃t,u=Value.str z t) xs us->xs.idxOf? x=some j->∃h:j < us.length,Ml x us[j]=true/\∀m (hm:m < us.length),m < j->Ml x us[m]=false:=by
 intro xs us x j hp hj;unfold List.idxOf? at hj;rintro⟨h1,h2,h3⟩:List.findIdx?_eq_some_iff_getElem.mp hj;have hl:=Paired.length hp
 have at':∀m (hm:m < us.length),Ml x us[m]=(xs[m]'(by lia) == x):=λm hm=>by
  rintro⟨z,e1,t,e2⟩:Pd.He hp (List.getElem?_eq_getElem hm);rw[e2,(List.getElem?_eq_some_iff.mp e1).2];rfl
 refine#[by lia,?_,λm hm hlt=>?_]
 .rw[at'];exact h2
 .rw[at'];simpa using h3 m hlt
theorem Pa(L:Bb ct X W cf k){Y:L2.St}{Q:VK}(I:∅)(rx:RelV x v)(ry:RelV y u)(h:AV W Dx x y H Q):(X|||(call (.builtin "list.index") [v,u])) (EP X p0 Y Q) X.xe s:=by
 rintro⟨c1,c2,c,h1,h2,e,q⟩:h;rintro⟨ps,e1,e⟩:Ab e;rintro⟨xs,e2,e⟩:Ab e;rintro⟨z,e3,e⟩:Ab e;rintro⟨j,e4,rfl⟩:AU e;cases C.Bt e3;cases BI h2;rintro⟨tk,rfl⟩:ry;rintro⟨a,vs,rfl,k1,k2⟩:Bn e1 h1;cases rx;rintro⟨its,r,⟨⟨cl,Bl,dat,sl⟩,n,ho,hc,hd,hdt⟩,hz⟩:I.list (.inl k1);have hp:=D3 e2 k2 r;rintro⟨g1,g2,g3⟩:WW hp e4;have hc:cl= .type "list":=hc;have hdt:dat= .seq its.toArray n:=hdt;subst hc hdt;have hl:=r.length;have hb:=D7
 refine call_meets PySem.F.slot_list_index #[_,ho,rfl] PySem.F.entry_list_index (PySem.F.args_list_index_2 _ _)
  (SeqAt.list_indexAt a its.toArray n Bl sl (.str z tk) (Ml z) j (by simpa using g1) (by lia) (by simpa using g2) λm hm hlt=>by simpa using g3 m (by simpa using hm) hlt) #[ho,λy hy=>Lu hp y (by simpa using hy),?_]
 exact#[.int j,H,I.tok _,#[_,rfl],q.int]
variable{pos:Pos}
theorem W2(L:Bb ct X W cf k){m:Str}{g:C->C->Option C}(hg:(m="get"/\g=Eu)\/(m="index"/\g=Dx))(hmo:Ja 1 ap pos=true)(hn:Uq o=true)(he:A7 e=true)(po:PE X o to)(pe:PE X e te):
 PE X (.Call (.Attribute o m ap) [e] [] pos) (λY H Q=>to Y H λx H1=>(∃c y r,Dj W H1 c x/\g c y=some r)/\te Y H1 λy H2=>AV W g x y H2 Q):=by
 rcases hg with⟨rfl,rfl⟩|⟨rfl,rfl⟩
 .refine Uo PySem.F.plainAttrs_dict PySem.F.slot_dict_get PySem.F.type_dict_get (λI hc hg r=>?_) (Wu L) hmo hn he po pe;rintro⟨kvs,e1,_⟩:Ab hg;rintro⟨a,es,ep,rfl,hd,ok⟩:Gk L.K I e1 hc;cases r;refine#[hd.typ,λb eb=>?_];cases eb;rintro⟨ob,g1,g2,_⟩:hd;exact#[ob,g1,g2.2.1]
 .refine Uo PySem.F.plainAttrs_list PySem.F.slot_list_index PySem.F.type_list_index (λI hc hg r=>?_) (Pa L) hmo hn he po pe;rintro⟨ps,e1,_⟩:Ab hg;rintro⟨a,vs,rfl,k1,k2⟩:Bn e1 hc;exact Kt I r (.inl #[rfl,vs,.inl k1])
theorem P5:Xp X "str.upper" (λx vs H Q=>x= .str "abcdefghijklmnopqrstuvwxyz"/\vs=[]/\Q (.str "ABCDEFGHIJKLMNOPQRSTUVWXYZ") H):=by
 intro p0 s Y H x vs v us Q I rx rv h;rintro⟨rfl,rfl,q⟩:h;cases rv;rintro⟨t,rfl⟩:rx;refine call_gives F.slot_str_upper (typeIs_str _ _ _) F.entry_str_upper (F.args_str_upper_1 _) (gives_str_upper _ t (by kernel_rfl)) ?_;refine#[by decide,#[.str "ABCDEFGHIJKLMNOPQRSTUVWXYZ",H,I.tok _,#[s.toks,?_],q]];exact congrArg (λz=>Value.str #[z] s.toks) (by kernel_rfl)
theorem VX(L:Bb ct X W cf k){m:Str}(hm:m="upper")(hmo:Ja 0 ap pos=true)(hn:Uq o=true)(po:PE X o to):PE X (.Call (.Attribute o m ap) [] [] pos) (λY H Q=>to Y H λv H1=>BZ W G7 v H1 Q):=by
 subst hm;refine Ai (KP PySem.F.plainAttrs_str PySem.F.slot_str_upper PySem.F.type_str_upper P5 (Cj po) (MD hn _ _ _) (CO hmo)) λY H Q z=>#[_,z,λv H1 ⟨c1,c,h1,e,q⟩=>?_]
 rintro⟨x,ex,e⟩:Ab e;rintro⟨rfl,rfl⟩:A3 e;cases C.Bt ex;cases BI h1;exact#[rfl,rfl,rfl,q.str]
end
end Nv
namespace PySem
open Sem (wp)
open PyProof.Rows
section
variable{prog:Program}{w:World}{A:Around}{E:Va}{s:Shared}
variable{it:Addr}
theorem AX{i:Nat}{items}{x:Value}{Q:Va}(hit:IsTupIter s.heap it t i)
 (ht:IsTup s.heap t items)(hx:items[i]? =some x)
 (hQ:∀h',IsTupIter h' it t (i+1)->Heap.SameBut it s.heap h'->Q x {s with heap:=h'}):
 wpAny (model prog w) A (Builtin.SmallTypes.nextOf (.ref it)) Q E s:=by
 rintro⟨o,ho,hc,hd⟩:id hit;rintro⟨ol,hol,_,nl,hdl⟩:ht;unfold Builtin.SmallTypes.nextOf
 refine wB (wpAny_callSpecial?_slot (name:=Str.ofString "__next__") hit.typeIs slot_tupleiter_next
  (wpAny_call_entry slot_tupleiter_next hit.typeIs entry_tupleiter_next ?_ (args_tupleiter_next _)))
 show wpAny _ _ (field (.ref it) 0 >>= _) _ _ s;refine wB (wpAny_field ho hd (x:=.ref t) rfl ?_);show wpAny _ _ (if(Value.ref t == Value.none)=true then _ else _) _ _ s;rw[iN (show ¬((Value.ref t == Value.none)=true)from Bool.false_ne_true)];show wpAny _ _ (field (.ref it) 1 >>= _) _ _ s;refine wB (wpAny_field ho hd (x:=.int i 0) rfl ?_);show wpAny _ _ (seqItems? (.ref t) >>= _) _ _ s;refine wB (wpAny_seqItems hol hdl ?_);simp only[Int.toNat_natCast,hx];refine wB (wpAny_setField ho hd (by simp) (wpAny_pure #[x,rfl,wpAny_pure (hQ _ ?_ (Heap.SameBut.update ..))]))
 exact⟨_,Heap.get?_update_self _ ho (Obj.isFreed_of_fields (Obj.data_mapFields hd _)),(Obj.cls_mapFields ..).trans hc,by
  rw[Obj.data_mapFields hd];simp[rawInt]⟩
theorem BQ{i:Nat}{items}{Q:Va}(hh:A.handled=none)
 (hit:IsTupIter s.heap it t i)(ht:IsTup s.heap t items)(hx:items[i]? =none)
 (hE:∀h' e,Heap.ExtBut it s.heap h'->(∃o,h'.get? e=some o/\o.cls= .type "StopIteration")->E (.ref e) {s with heap:=h'}):
 wpAny (model prog w) A (Builtin.SmallTypes.nextOf (.ref it)) Q E s:=by
 rintro⟨o,ho,hc,hd⟩:id hit;rintro⟨ol,hol,_,nl,hdl⟩:ht;unfold Builtin.SmallTypes.nextOf
 refine wB (wpAny_callSpecial?_slot (name:=Str.ofString "__next__") hit.typeIs slot_tupleiter_next
  (wpAny_call_entry slot_tupleiter_next hit.typeIs entry_tupleiter_next ?_ (args_tupleiter_next _)))
 show wpAny _ _ (field (.ref it) 0 >>= _) _ _ s;refine wB (wpAny_field ho hd (x:=.ref t) rfl ?_);show wpAny _ _ (if(Value.ref t == Value.none)=true then _ else _) _ _ s;rw[iN (show ¬((Value.ref t == Value.none)=true)from Bool.false_ne_true)];show wpAny _ _ (field (.ref it) 1 >>= _) _ _ s;refine wB (wpAny_field ho hd (x:=.int i 0) rfl ?_);show wpAny _ _ (seqItems? (.ref t) >>= _) _ _ s;refine wB (wpAny_seqItems hol hdl ?_);simp only[Int.toNat_natCast,hx];refine wB (wpAny_rule (wB (wpAny_setField ho hd (by simp) ?_)));show wpAny _ _ (newExc (.type "StopIteration") [] >>= _) _ _ _;refine wB ?_;simp only[newExc,newTuple];refine wB (wpAny_newObj_type ?_ (by size_fits));refine wB (m:=firstArgMember _ _) (wpAny_of_eq (a:=Value.none) (by first|rfl|(simp only[firstArgMember];rfl)) ?_);refine wpAny_newObj_type ?_ (by size_fits);simp only[raiseNew];refine wB (wpAny_handled ?_)
 first|rw[show A.in1.handled=none from hh]|rw[hh]
 refine wB (wpAny_pure (wpAny_throw ?_));exact hE _ _ (((Heap.SameBut.update ..).extBut.push _).push _) #[_,Heap.get?_push_size _ rfl,rfl]
abbrev ZG(h:Heap)(z TI TO:Addr)(f0:Value)(f1:Bool):Prop:=
 h.get? z=some {cls:=.type "zip",dict:=none,data:=.fields [f0,.bool f1,.bool false,.ref TI,.ref TO].toArray,slots:=[].toArray}
def F0(f0:Value):Prop:=f0= .none\/∃T:Addr,f0=rawInt T
theorem Ea{Q:Option Obj->Shared->Prop}(h:Q (s.heap.get? a) s):wpAny (model prog w) A (loadIfAlive a) Q E s:=λΓ p _=>by
 show wp _ Γ (Sem.loadIfAlive a Sem.pure) _ _ p s;rw[Sem.wp_loadIfAlive];exact h
theorem LL{TI TO:Addr}{f1:Bool}{Q:Bool->Shared->Prop}(hz:ZG s.heap z TI TO f0 f1)(hf:F0 f0)(h1:Q true s)(h2:∀h' f1',ZG h' z TI TO f0 f1'->Heap.SameBut z s.heap h'->Q false {s with heap:=h'}):
 wpAny (model prog w) A (Builtin.SmallTypes.ownedTupleIsFree (.ref z)) Q E s:=by
 unfold Builtin.SmallTypes.ownedTupleIsFree;rcases hf with rfl|⟨T,rfl⟩
 .exact wB (wpAny_field hz rfl (x:=.none) rfl (wpAny_pure h1))
 .refine wB (wpAny_field hz rfl (x:=rawInt T) rfl ?_);show wpAny _ _ (loadIfAlive (T:Int).toNat >>= _) _ _ s;refine wB (Ea ?_);cases hT:s.heap.get? (T:Int).toNat with
  |none=>exact wpAny_pure h1
  |some o=>
    show wpAny _ _ (field (.ref z) 1 >>= _) _ _ s;refine wB (wpAny_field hz rfl (x:=.bool f1) rfl ?_);cases f1 with
    |true=>
      show wpAny _ _ (pure false) _ _ s;exact wpAny_pure (h2 s.heap true hz (Heap.SameBut.refl ..))
    |false=>
      show wpAny _ _ (setField (.ref z) 1 (.bool true) >>= _) _ _ s;refine wB (wpAny_setField_rec hz (by simp) λh' hz' hs'=>wpAny_pure (h2 h' true hz' hs'))
end
end PySem
namespace PySem
open Sem (wp)
open PyProof.Rows
section
variable{prog:Program}{w:World}{A:Around}{E:Va}{s:Shared}
variable{k1 k2:Nat}{f1:Bool}
theorem Ia{TI TO:Addr}{xs ys:Array Value}{x y:Value}{Q:Va}(D:ZipApart z TI TO i1 i2 l1 l2)
 (hz:ZG s.heap z TI TO f0 f1)(hf:F0 f0)(hTI:IsPair s.heap TI (.ref i1) (.ref i2))(hTO:IsPair s.heap TO a b)
 (h1:IsTupIter s.heap i1 l1 k1)(h2:IsTupIter s.heap i2 l2 k2)(hl1:IsTup s.heap l1 xs)(hl2:IsTup s.heap l2 ys)(hx:xs[k1]? =some x)(hy:ys[k2]? =some y)
 (hQ:∀h' f0' f1' a' b',ZG h' z TI TO f0' f1'->F0 f0'->IsPair h' TO a' b'->IsTupIter h' i1 l1 (k1 + 1)->IsTupIter h' i2 l2 (k2 + 1)->IsPair h' s.heap.objs.size x y->h'.objs.size=s.heap.objs.size + 1->
  (∀c o,c≠z->c≠TO->c≠i1->c≠i2->s.heap.get? c=some o->h'.get? c=some o)->Q (.ref s.heap.objs.size) {s with heap:=h'}):
 wpAny (model prog w) A (Builtin.«zip.__next__» #[[.ref z],[]]) (λfin s'=>∃v,fin= .done (.ret v)/\Q v s') E s:=by
 show wpAny _ _ (field (.ref z) 2 >>= _) _ _ _;refine wB (wpAny_field hz rfl (x:=.bool false) rfl ?_);show wpAny _ _ (field (.ref z) 3 >>= _) _ _ _;refine wB (wpAny_field hz rfl (x:=.ref TI) rfl ?_);refine wB (wpAny_seqItems hTI rfl ?_);show wpAny _ _ (Builtin.SmallTypes.ownedTupleIsFree (.ref z) >>= _) _ _ _;refine wB (LL hz hf ?_ λh₁ f1' hz₁ hs₁=>?_)
 .simp only[if_true];refine wB (wpAny_rule ?_);refine wB (wpAny_field hz rfl (x:=.ref TO) rfl ?_);refine wB (wpAny_setField_rec hz (by simp) λh₁ hz₁ hs₁=>?_);replace hz₁:ZG h₁ z TI TO .ellipsis f1:=hz₁;refine wB ?_;simp only[zipIdx_cons,List.zipIdx_nil,forIn_cons,forIn_nil];refine wB (wB (wpAny_onRaise ?_));show wpAny _ _ (Builtin.SmallTypes.nextOf (.ref i1) >>= _) _ _ _;refine wB (AX (h1.extBut hs₁.extBut D.i1z) (hl1.extBut hs₁.extBut D.l1z) hx λh₂ h1₂ hs₂=>wpAny_pure ?_);have hTO₂:IsPair h₂ TO a b:=hs₂.extBut _ _ D.TOi1 (hs₁.extBut _ _ D.TOz hTO);refine wB (wpAny_seqItems hTO₂ rfl ?_);refine wB (wpAny_updateSeq_pair hTO₂ λh₃ hTO₃ hs₃=>?_);replace hTO₃:IsPair h₃ TO x b:=hTO₃;refine wB (wpAny_letGo (wpAny_pure ?_));refine wB (wB (wpAny_onRaise ?_));show wpAny _ _ (Builtin.SmallTypes.nextOf (.ref i2) >>= _) _ _ _
  refine wB (AX (((h2.extBut hs₁.extBut D.i2z).extBut hs₂.extBut D.i12.symm).extBut hs₃.extBut D.TOi2.symm)
   (((hl2.extBut hs₁.extBut D.l2z).extBut hs₂.extBut D.l2i1).extBut hs₃.extBut D.l2TO) hy λh₄ h2₄ hs₄=>wpAny_pure ?_)
  have hTO₄:IsPair h₄ TO x b:=hs₄.extBut _ _ D.TOi2 hTO₃;refine wB (wpAny_seqItems hTO₄ rfl ?_);refine wB (wpAny_updateSeq_pair hTO₄ λh₅ hTO₅ hs₅=>?_);replace hTO₅:IsPair h₅ TO x y:=hTO₅;refine wB (wpAny_letGo (wpAny_pure (wpAny_pure ?_)));refine wB (wpAny_seqItems hTO₅ rfl ?_);refine wB (wpAny_newTuple ?_);have hsz:h₅.objs.size=s.heap.objs.size:=by rw[hs₅.1,hs₄.1,hs₃.1,hs₂.1,hs₁.1]
  have hz₅:ZG h₅ z TI TO .ellipsis f1:=hs₅.extBut _ _ D.TOz.symm (hs₄.extBut _ _ D.i2z.symm (hs₃.extBut _ _ D.TOz.symm (hs₂.extBut _ _ D.i1z.symm hz₁)))
  have hk₅:∀c o,c≠z->c≠TO->c≠i1->c≠i2->s.heap.get? c=some o->h₅.get? c=some o:=λc o c1 c2 c3 c4 e=>
   hs₅.extBut _ _ c2 (hs₄.extBut _ _ c4 (hs₃.extBut _ _ c2 (hs₂.extBut _ _ c3 (hs₁.extBut _ _ c1 e))))
  have h1₅:IsTupIter h₅ i1 l1 (k1+1):=((h1₂.extBut hs₃.extBut D.TOi1.symm).extBut hs₄.extBut D.i12).extBut hs₅.extBut D.TOi1.symm;have h2₅:IsTupIter h₅ i2 l2 (k2+1):=h2₄.extBut hs₅.extBut D.TOi2.symm;have hzlt:z < h₅.objs.size:=hZ hz₅;show wpAny _ _ (Builtin.SmallTypes.ownedTupleHandOut (.ref z) (.ref h₅.objs.size) >>= _) _ _ _;refine wB ?_;unfold Builtin.SmallTypes.ownedTupleHandOut;have hz₆:ZG (h₅.push {cls:=.type "tuple",data:=.seq [x,y].toArray}) z TI TO .ellipsis f1:=gP hz₅;refine wB (wpAny_setField_rec hz₆ (by simp) λh₇ hz₇ hs₇=>?_);replace hz₇:ZG h₇ z TI TO (rawInt h₅.objs.size) f1:=hz₇;refine wpAny_setField_rec hz₇ (by simp) λh₈ hz₈ hs₈=>?_
  replace hz₈:ZG h₈ z TI TO (rawInt h₅.objs.size) false:=hz₈;have up:∀c o,c≠z->h₅.get? c=some o->h₈.get? c=some o:=λc o c1 e=>hs₈.extBut _ _ c1 (hs₇.extBut _ _ c1 (gP e))
  have hT₈:IsPair h₈ h₅.objs.size x y:=hs₈.extBut _ _ (Nat.ne_of_gt hzlt) (hs₇.extBut _ _ (Nat.ne_of_gt hzlt) (Heap.get?_push_size _ rfl));have hz8:h₈.objs.size=h₅.objs.size+1:=by rw[hs₈.1,hs₇.1,Heap.size_push]
  rw[hsz]at hz₈ hT₈ hz8;refine wpAny_pure #[_,rfl,?_];show Q (.ref h₅.objs.size) _;rw[hsz];exact hQ h₈ _ _ x y hz₈ (.inr #[_,rfl]) (up _ _ D.TOz hTO₅) (let⟨o,e,r⟩:=h1₅;#[o,up _ o D.i1z e,r]) (let⟨o,e,r⟩:=h2₅;#[o,up _ o D.i2z e,r]) hT₈ hz8 λc o c1 c2 c3 c4 e=>up c o c1 (hk₅ c o c1 c2 c3 c4 e)
 .simp only[Bool.false_eq_true,if_false];refine wB ?_;simp only[<-Array.forIn_toList,forIn_cons,forIn_nil];refine wB (wB (wpAny_holding ?_));show wpAny _ _ (Builtin.SmallTypes.nextOf (.ref i1) >>= _) _ _ _;refine wB (AX (h1.extBut hs₁.extBut D.i1z) (hl1.extBut hs₁.extBut D.l1z) hx λh₂ h1₂ hs₂=>wpAny_pure ?_);refine wpAny_pure ?_;refine wB (wB (wpAny_holding ?_));show wpAny _ _ (Builtin.SmallTypes.nextOf (.ref i2) >>= _) _ _ _
  refine wB (AX ((h2.extBut hs₁.extBut D.i2z).extBut hs₂.extBut D.i12.symm)
   ((hl2.extBut hs₁.extBut D.l2z).extBut hs₂.extBut D.l2i1) hy λh₄ h2₄ hs₄=>wpAny_pure ?_)
  refine wpAny_pure (wpAny_pure ?_);refine wB (wpAny_newTuple (hsz:=by show 2<=sizeLine;rw[sizeLine_eq];omega) ?_);have hsz:h₄.objs.size=s.heap.objs.size:=by rw[hs₄.1,hs₂.1,hs₁.1]
  have hz₄:ZG h₄ z TI TO f0 f1':=hs₄.extBut _ _ D.i2z.symm (hs₂.extBut _ _ D.i1z.symm hz₁)
  have hk₄:∀c o,c≠z->c≠TO->c≠i1->c≠i2->s.heap.get? c=some o->h₄.get? c=some o:=λc o c1 c2 c3 c4 e=>
   hs₄.extBut _ _ c4 (hs₂.extBut _ _ c3 (hs₁.extBut _ _ c1 e))
  have hTO₄:IsPair h₄ TO a b:=hs₄.extBut _ _ D.TOi2 (hs₂.extBut _ _ D.TOi1 (hs₁.extBut _ _ D.TOz hTO));have h1₄:IsTupIter h₄ i1 l1 (k1+1):=h1₂.extBut hs₄.extBut D.i12;have up:∀c o,h₄.get? c=some o->(h₄.push {cls:=.type "tuple",data:=.seq [x,y].toArray}).get? c=some o:=λc o e=>gP e
  refine wpAny_pure #[_,rfl,?_];show Q (.ref h₄.objs.size) _;have hT:IsPair (h₄.push {cls:=.type "tuple",data:=.seq [x,y].toArray}) h₄.objs.size x y:=Heap.get?_push_size _ rfl;rw[hsz]at hT ⊢;exact hQ _ _ _ a b (up _ _ hz₄) hf (up _ _ hTO₄) (let⟨o,e,r⟩:=h1₄;#[o,up _ o e,r]) (let⟨o,e,r⟩:=h2₄;#[o,up _ o e,r]) hT (by rw[Heap.size_push,hsz]) λc o c1 c2 c3 c4 e=>up c o (hk₄ c o c1 c2 c3 c4 e)
theorem Jd{TI TO:Addr}{xs ys:Array Value}{Q:Fin->Shared->Prop}(hh:A.handled=none)(D:ZipApart z TI TO i1 i2 l1 l2)
 (hz:ZG s.heap z TI TO f0 f1)(hf:F0 f0)(hTI:IsPair s.heap TI (.ref i1) (.ref i2))(hTO:IsPair s.heap TO a b)
 (h1:IsTupIter s.heap i1 l1 k1)(h2:IsTupIter s.heap i2 l2 k2)(hl1:IsTup s.heap l1 xs)(hl2:IsTup s.heap l2 ys)(hend:xs[k1]? =none\/ys[k2]? =none)
 (hE:∀h' e,(∀c o,c≠z->c≠TO->c≠i1->c≠i2->s.heap.get? c=some o->h'.get? c=some o)->(∃o,h'.get? e=some o/\o.cls= .type "StopIteration")->E (.ref e) {s with heap:=h'}):
 wpAny (model prog w) A (Builtin.«zip.__next__» #[[.ref z],[]]) Q E s:=by
 show wpAny _ _ (field (.ref z) 2 >>= _) _ _ _;refine wB (wpAny_field hz rfl (x:=.bool false) rfl ?_);show wpAny _ _ (field (.ref z) 3 >>= _) _ _ _;refine wB (wpAny_field hz rfl (x:=.ref TI) rfl ?_);refine wB (wpAny_seqItems hTI rfl ?_);show wpAny _ _ (Builtin.SmallTypes.ownedTupleIsFree (.ref z) >>= _) _ _ _;refine wB (LL hz hf ?_ λh₁ f1' hz₁ hs₁=>?_)
 .simp only[if_true];refine wB (wpAny_rule ?_);refine wB (wpAny_field hz rfl (x:=.ref TO) rfl ?_);refine wB (wpAny_setField_rec hz (by simp) λh₁ hz₁ hs₁=>?_);replace hz₁:ZG h₁ z TI TO .ellipsis f1:=hz₁;refine wB ?_;simp only[zipIdx_cons,List.zipIdx_nil,forIn_cons,forIn_nil];refine wB (wB (wpAny_onRaise ?_));show wpAny _ _ (Builtin.SmallTypes.nextOf (.ref i1) >>= _) _ _ _;cases hx:xs[k1]? with
  |none=>
    refine wB (BQ hh (h1.extBut hs₁.extBut D.i1z) (hl1.extBut hs₁.extBut D.l1z) hx λh₂ e hs₂ he=>?_);rintro⟨oe,hoe,hce⟩:he;have hz₂:ZG h₂ z TI TO .ellipsis f1:=hs₂ _ _ D.i1z.symm hz₁;have hez:e≠z:=λx=>by subst x;rw[hz₂]at hoe;cases hoe;simp at hce
    refine wpAny_setField_rec hz₂ (by simp) λh₃ _ hs₃=>hE h₃ e (λc o c1 _ c3 _ x=>hs₃.extBut _ _ c1 (hs₂ _ _ c3 (hs₁.extBut _ _ c1 x))) #[oe,hs₃.extBut _ _ hez hoe,hce]
  |some x=>
    have hy:ys[k2]? =none:=by rcases hend with h|h;rw[hx]at h;cases h;exact h
    refine wB (AX (h1.extBut hs₁.extBut D.i1z) (hl1.extBut hs₁.extBut D.l1z) hx λh₂ h1₂ hs₂=>wpAny_pure ?_);have hTO₂:IsPair h₂ TO a b:=hs₂.extBut _ _ D.TOi1 (hs₁.extBut _ _ D.TOz hTO);refine wB (wpAny_seqItems hTO₂ rfl ?_);refine wB (wpAny_updateSeq_pair hTO₂ λh₃ hTO₃ hs₃=>?_);refine wB (wpAny_letGo (wpAny_pure ?_));refine wB (wB (wpAny_onRaise ?_));show wpAny _ _ (Builtin.SmallTypes.nextOf (.ref i2) >>= _) _ _ _
    refine wB (BQ hh (((h2.extBut hs₁.extBut D.i2z).extBut hs₂.extBut D.i12.symm).extBut hs₃.extBut D.TOi2.symm)
     (((hl2.extBut hs₁.extBut D.l2z).extBut hs₂.extBut D.l2i1).extBut hs₃.extBut D.l2TO) hy λh₄ e hs₄ he=>?_)
    rintro⟨oe,hoe,hce⟩:he;have hz₄:ZG h₄ z TI TO .ellipsis f1:=hs₄ _ _ D.i2z.symm (hs₃.extBut _ _ D.TOz.symm (hs₂.extBut _ _ D.i1z.symm hz₁));have hez:e≠z:=λx=>by subst x;rw[hz₄]at hoe;cases hoe;simp at hce
    refine wpAny_setField_rec hz₄ (by simp) λh₅ _ hs₅=>hE h₅ e (λc o c1 c2 c3 c4 x=>hs₅.extBut _ _ c1 (hs₄ _ _ c4 (hs₃.extBut _ _ c2 (hs₂.extBut _ _ c3 (hs₁.extBut _ _ c1 x))))) #[oe,hs₅.extBut _ _ hez hoe,hce]
 .simp only[Bool.false_eq_true,if_false];refine wB ?_;simp only[<-Array.forIn_toList,forIn_cons,forIn_nil];refine wB (wB (wpAny_holding ?_));show wpAny _ _ (Builtin.SmallTypes.nextOf (.ref i1) >>= _) _ _ _;cases hx:xs[k1]? with
  |none=>
    refine wB (BQ hh (h1.extBut hs₁.extBut D.i1z) (hl1.extBut hs₁.extBut D.l1z) hx λh₂ e hs₂ he=>?_);exact hE h₂ e (λc o c1 _ c3 _ x=>hs₂ _ _ c3 (hs₁.extBut _ _ c1 x)) he
  |some x=>
    have hy:ys[k2]? =none:=by rcases hend with h|h;rw[hx]at h;cases h;exact h
    refine wB (AX (h1.extBut hs₁.extBut D.i1z) (hl1.extBut hs₁.extBut D.l1z) hx λh₂ h1₂ hs₂=>wpAny_pure ?_);refine wpAny_pure ?_;refine wB (wB (wpAny_holding ?_));show wpAny _ _ (Builtin.SmallTypes.nextOf (.ref i2) >>= _) _ _ _
    refine wB (BQ hh ((h2.extBut hs₁.extBut D.i2z).extBut hs₂.extBut D.i12.symm)
     ((hl2.extBut hs₁.extBut D.l2z).extBut hs₂.extBut D.l2i1) hy λh₄ e hs₄ he=>?_)
    exact hE h₄ e (λc o c1 _ c3 c4 x=>hs₄ _ _ c4 (hs₂.extBut _ _ c3 (hs₁.extBut _ _ c1 x))) he
end
end PySem
namespace PySem
open Sem (wp)
open PyProof.Rows
section
variable{prog:Program}{w:World}{A:Around}{E:Va}{s:Shared}
variable{f1:Bool}
theorem I9{TI TO:Addr}(hz:ZG s.heap z TI TO f0 f1):s.TypeIs (.ref z) "zip":=#[_,hz,rfl]
theorem LK{TI TO:Addr}{Q:Va}(hz:ZG s.heap z TI TO f0 f1)(h:Q (.ref z) s):wpAny (model prog w) A (pyIter (.ref z)) Q E s:=by
 have hT:=I9 hz;refine wpAny_pyIter_slot hT F.slot_zip_iter (wpAny_call_entry F.slot_zip_iter hT F.entry_zip_iter ?_ (F.args_zip_iter_1 _));show wpAny _ _ (ret (.ref z)) _ _ s;exact wpAny_pure #[_,rfl,"zip",_,hT,F.slot_zip_next.lookup,h]
variable{k1 k2:Nat}
theorem QT{TI TO:Addr}{xs ys:Array Value}{x y:Value}{Q:Option Value->Shared->Prop}(D:ZipApart z TI TO i1 i2 l1 l2)
 (hz:ZG s.heap z TI TO f0 f1)(hf:F0 f0)(hTI:IsPair s.heap TI (.ref i1) (.ref i2))(hTO:IsPair s.heap TO a b)
 (h1:IsTupIter s.heap i1 l1 k1)(h2:IsTupIter s.heap i2 l2 k2)(hl1:IsTup s.heap l1 xs)(hl2:IsTup s.heap l2 ys)(hx:xs[k1]? =some x)(hy:ys[k2]? =some y)
 (hQ:∀h' f0' f1' a' b',ZG h' z TI TO f0' f1'->F0 f0'->IsPair h' TO a' b'->IsTupIter h' i1 l1 (k1 + 1)->IsTupIter h' i2 l2 (k2 + 1)->IsPair h' s.heap.objs.size x y->h'.objs.size=s.heap.objs.size + 1->
  (∀c o,c≠z->c≠TO->c≠i1->c≠i2->s.heap.get? c=some o->h'.get? c=some o)->Q (some (.ref s.heap.objs.size)) {s with heap:=h'}):
 wpAny (model prog w) A (pyNext (.ref z)) Q E s:=by
 have hT:=I9 hz;unfold pyNext
 exact wB (wpAny_attempt (wpAny_callSpecial?_slot (name:=Str.ofString "__next__") hT F.slot_zip_next
  (wpAny_call_entry F.slot_zip_next hT F.entry_zip_next
   (Ia D hz hf hTI hTO h1 h2 hl1 hl2 hx hy λh' f0' f1' a' b' a1 a1' a2 a3 a4 a5 a6 a7=>wpAny_pure (hQ h' f0' f1' a' b' a1 a1' a2 a3 a4 a5 a6 a7)) (F.args_zip_next_1 _))))
theorem UR{TI TO:Addr}{xs ys:Array Value}{Q:Option Value->Shared->Prop}(hh:A.handled=none)(D:ZipApart z TI TO i1 i2 l1 l2)
 (hz:ZG s.heap z TI TO f0 f1)(hf:F0 f0)(hTI:IsPair s.heap TI (.ref i1) (.ref i2))(hTO:IsPair s.heap TO a b)
 (h1:IsTupIter s.heap i1 l1 k1)(h2:IsTupIter s.heap i2 l2 k2)(hl1:IsTup s.heap l1 xs)(hl2:IsTup s.heap l2 ys)(hend:xs[k1]? =none\/ys[k2]? =none)
 (hQ:∀h',(∀c o,c≠z->c≠TO->c≠i1->c≠i2->s.heap.get? c=some o->h'.get? c=some o)->Q none {s with heap:=h'}):wpAny (model prog w) A (pyNext (.ref z)) Q E s:=by
 have hT:=I9 hz;unfold pyNext
 refine wB (wpAny_attempt (wpAny_callSpecial?_slot (name:=Str.ofString "__next__") hT F.slot_zip_next
  (wpAny_call_entry F.slot_zip_next hT F.entry_zip_next (Jd hh D hz hf hTI hTO h1 h2 hl1 hl2 hend λh' e hk he=>?_) (F.args_zip_next_1 _))))
 rintro⟨o,ho,hc⟩:he;refine wB (wpAny_isInstance (T:="StopIteration") (b:=true) #[o,ho,hc] isSubtype_stop ?_);exact wpAny_pure (hQ _ hk)
structure ZS(z TI TO i1 i2 l1 l2:Addr)(xs ys:Array Value)(i:Nat)(h:Heap):Prop where
 zg:∃f0 f1,ZG h z TI TO f0 f1/\F0 f0
 ti:IsPair h TI (.ref i1) (.ref i2)
 to:∃a b,IsPair h TO a b
 cX:IsTupIter h i1 l1 i
 cW:IsTupIter h i2 l2 i
 t1:IsTup h l1 xs
 t2:IsTup h l2 ys
theorem UQ{elts:List Expr}{x1:Nat}{pos:Pos}{TI TO:Addr}{Q:Unit->Shared->Prop}(hz:ZG s.heap z TI TO f0 f1)(hf:F0 f0)(h:∀h' f0',ZG h' z TI TO f0' f1->F0 f0'->Heap.SameBut z s.heap h'->Q () {s with heap:=h'}):
 wpAny (model prog w) A (letOwnedTupleGo (.Tuple elts x1 pos) (.ref z) (.ref a)) Q E s:=by
 unfold letOwnedTupleGo;refine wB (wpAny_load hz ?_);refine wpAny_ite_split (λ_=>?_) (λ_=>wpAny_pure (h s.heap f0 hz hf (Heap.SameBut.refl ..)));refine wB (wpAny_rule ?_);show wpAny _ _ (setField (.ref z) 0 .none) _ _ _;exact wpAny_setField_rec hz (by simp) λh' hz' hs'=>h h' .none hz' (.inl rfl) hs'
end
abbrev QX(h:Heap)(l1:Addr):Heap:=h.push {cls:=.type "tuple_iterator",data:=.fields [.ref l1,.int 0 0].toArray}
abbrev QW(h:Heap)(l1 l2:Addr):Heap:=(QX h l1).push {cls:=.type "tuple_iterator",data:=.fields [.ref l2,.int 0 0].toArray}
abbrev QV(h:Heap)(l1 l2:Addr):Heap:=(QW h l1 l2).push {cls:=.type "tuple",data:=.seq [.ref h.objs.size,.ref (QX h l1).objs.size].toArray}
abbrev QU(h:Heap)(l1 l2:Addr):Heap:=(QV h l1 l2).push {cls:=.type "tuple",data:=.seq [.none,.none].toArray}
abbrev Je(h:Heap)(l1 l2:Addr):Heap:=(QU h l1 l2).push {cls:=.type "zip",data:=.fields [.none,.bool false,.bool false,.ref (QW h l1 l2).objs.size,.ref (QV h l1 l2).objs.size].toArray}
theorem IE(l1 l2:Addr)(xs ys:Array Value):
 Meets (Builtin.«zip.__new__» #[[.type "zip",.ref l1,.ref l2],[]]) (λ_ R s=>IsTup s.heap l1 xs/\IsTup s.heap l2 ys/\
  R (.ok (.ret (.ref (QU s.heap l1 l2).objs.size))) {s with heap:=Je s.heap l1 l2}):=
 .of_wp λprog w A R s h=>by
  rintro⟨hp,g,d,tk,os⟩:s;rintro⟨hl1,hl2,h⟩:h;have hsub:=sub_zip;have hL1:IsTup (Shared.heap #[hp,g,d,tk,os]) l1 xs:=hl1;have hL2:IsTup (Shared.heap #[hp.push {cls:=.type "tuple_iterator",data:=.fields [.ref l1,.int 0 0].toArray},g,d,tk,os]) l2 ys:=hl2.push _
  wp_walk using iter_tuple hL1,iter_tuple hL2
  exact#[_,rfl,h]
section
variable{prog:Program}{w:World}{A:Around}{E:Va}{s:Shared}
theorem Ts{xs ys:Array Value}{Q:Va}(hl1:IsTup s.heap l1 xs)(hl2:IsTup s.heap l2 ys)
 (h:∀h',ZS (s.heap.objs.size + 4) (s.heap.objs.size + 2) (s.heap.objs.size + 3) s.heap.objs.size (s.heap.objs.size + 1) l1 l2 xs ys 0 h'->ZipApart (s.heap.objs.size + 4) (s.heap.objs.size + 2) (s.heap.objs.size + 3) s.heap.objs.size (s.heap.objs.size + 1) l1 l2->h'.objs.size=s.heap.objs.size + 5->
   (∀c o,s.heap.get? c=some o->h'.get? c=some o)->Q (.ref (s.heap.objs.size+4)) {s with heap:=h'}):
 wpAny (model prog w) A (call (.type "zip") [.ref l1,.ref l2]) Q E s:=by
 refine callType_new F.called_zip (by decide) (F.typeCall_zip_2 _ _) (F.newCall_zip_2 _ _) (λobj=>F.args_object_init_3 obj _ _) F.entry_zip_new
  (IE l1 l2 xs ys) #[hl1,hl2,?_]
 have z1:(QX s.heap l1).objs.size=s.heap.objs.size+1:=Heap.size_push ..;have z2:(QW s.heap l1 l2).objs.size=s.heap.objs.size+2:=by rw[Heap.size_push,z1]
 have z3:(QV s.heap l1 l2).objs.size=s.heap.objs.size+3:=by rw[Heap.size_push,z2]
 have z4:(QU s.heap l1 l2).objs.size=s.heap.objs.size+4:=by rw[Heap.size_push,z3]
 have z5:(Je s.heap l1 l2).objs.size=s.heap.objs.size+5:=by rw[Heap.size_push,z4]
 have g5:(Je s.heap l1 l2).get? (QU s.heap l1 l2).objs.size=some _:=Heap.get?_push_size _ rfl;have g4:(Je s.heap l1 l2).get? (QV s.heap l1 l2).objs.size=some _:=gP (Heap.get?_push_size _ rfl);have g3:(Je s.heap l1 l2).get? (QW s.heap l1 l2).objs.size=some _:=gP (gP (Heap.get?_push_size _ rfl));have g2:(Je s.heap l1 l2).get? (QX s.heap l1).objs.size=some _:=gP (gP (gP (Heap.get?_push_size _ rfl)));have g1:(Je s.heap l1 l2).get? s.heap.objs.size=some _:=gP (gP (gP (gP (Heap.get?_push_size _ rfl))))
 have kp:∀c o,s.heap.get? c=some o->(Je s.heap l1 l2).get? c=some o:=λc o x=>
  gP (gP (gP (gP (gP x))))
 have n1:=hl1.lt;have n2:=hl2.lt;show _/\_;rw[z2,z3,z4]at g5;rw[z1,z2]at g3;rw[z3]at g4;rw[z1]at g2;rw[z4];refine#[#[_,g5,rfl],h _ #[#[_,_,g5,.inl rfl],g3,#[_,_,g4],#[_,g1,rfl,rfl],#[_,g2,rfl,rfl],hl1.keeps kp,hl2.keeps kp] ?_ z5 kp];constructor<;>(intro q;(try simp at q))<;>(first|exact absurd q (Nat.ne_of_lt (by first|exact n1|exact n2|exact Nat.lt_of_lt_of_le n1 (Nat.le_add_right _ _)|exact Nat.lt_of_lt_of_le n2 (Nat.le_add_right _ _)))|(exact absurd q (by first|exact Nat.ne_of_lt (Nat.lt_add_of_pos_right (by decide))|skip)))
end
end PySem
namespace Nv
open PySem L2 PyProof.Rows
section
variable{X:Cx}{W:Wd}{ct:Ct}{cf:CF}{k:Nat}
variable{p0:Oa}{H:Hp}{s:Shared}{h':Heap}{t':Nat}{ch:List Addr}
theorem WS{Y:L2.St}{o:HO}(I:∅)(k:∀b o,b∉ch->s.heap.get? b=some o->h'.get? b=some o)
 (c:∀e∈ch,H e=none/\e≠X.env.locals/\(e∈X.ex\/X.s₀.heap.objs.size<=e)/\(∀x c,X.env.cells.lookup x=some c->c≠e)/\∀p∈X.pn++p0,p.1≠e)
 (new:Br X.prog X.w (upd H s.heap.objs.size o) h' s.heap.objs.size o):Inv X p0 Y (upd H s.heap.objs.size o) {s with heap:=h',toks:=t'}:=by
 have fr:=I.Aj.fresh (Nat.le_refl s.heap.objs.size);have nit:∀b u,H b=some u->b∉ch:=λb u q z=>by rw[(c b z).1]at q;cases q
 have nf:∀b u,H b=some u->upd H s.heap.objs.size o b=some u:=λb u q=>by rw[A4 (AI q fr)];exact q
 refine I.step (g':=s.gens) (d':=s.drawn) (ch:=ch) (λb hb=>#[(c b hb).2.2.1,(c b hb).2.1,(c b hb).2.2.2]) (λb o _ _ hc q _=>k b o hc q) (λb o _ _ hc q _=>#[o.slots,k b o hc q]) (λb o' _ q n=>by rw[A4 (Nat.ne_of_lt (hZ q))];exact n)
  (λb o hc q=>#[o,k b o hc q]) (λ_ _ q=>nf _ _ q) (λ_ _ _ q=>nf _ _ q) (λb ps q=>#[[].toArray,by rw[nf _ _ q];simp]) (λm hm=>?_) (λb u q=>?_) I.bare
 .obtain⟨o,es,ep,ho,r⟩:=hm;exact#[o,es,ep,k _ o (λz=>(c _ z).2.1 rfl) ho,r]
 .by_cases hb:b=s.heap.objs.size
  .subst hb;rw[A6]at q;cases q;exact new
  .rw[A4 hb]at q;refine(I.Aj b u q).GZ (λc v hc z=>?_) (λc z=>nf _ _ z) λ_ _ z=>nf _ _ z
   rcases hc with y|y
   .rw[y]at z ⊢;exact k b v (nit b u q) z
   .exact k c v (nit c _ y) z
theorem SU{Y:L2.St}(I:∅)(k:∀b o,b∉ch->s.heap.get? b=some o->h'.get? b=some o)
 (c:∀e∈ch,H e=none/\e≠X.env.locals/\(e∈X.ex\/X.s₀.heap.objs.size<=e)/\(∀x c,X.env.cells.lookup x=some c->c≠e)/\∀p∈X.pn++p0,p.1≠e):Inv X p0 Y H {s with heap:=h',toks:=t'}:=by
 have nit:∀b u,H b=some u->b∉ch:=λb u q z=>by rw[(c b z).1]at q;cases q
 refine I.step (g':=s.gens) (d':=s.drawn) (ch:=ch) (λb hb=>#[(c b hb).2.2.1,(c b hb).2.1,(c b hb).2.2.2]) (λb o _ _ hc q _=>k b o hc q) (λb o _ _ hc q _=>#[o.slots,k b o hc q]) (λb o' _ q n=>n)
  (λb o hc q=>#[o,k b o hc q]) (λ_ _ q=>q) (λ_ _ _ q=>q) (λb ps q=>#[[].toArray,by rw[q];simp]) (λm hm=>?_) (λb u q=>?_) I.bare
 .obtain⟨o,es,ep,ho,r⟩:=hm;exact#[o,es,ep,k _ o (λz=>(c _ z).2.1 rfl) ho,r]
 .refine(I.Aj b u q).GZ (λc v hc z=>?_) (λc z=>z) λ_ _ z=>z
  rcases hc with y|y
  .rw[y]at z ⊢;exact k b v (nit b u q) z
  .exact k c v (nit c _ y) z
noncomputable def dA(K:Frag)(l1 l2:Addr):It:=
 #[λi H=>∃xs ys x y,D1 K H l1 xs/\D1 K H l2 ys/\xs[i]? =some x/\ys[i]? =some y,λi H x H'=>∃p u v,x= .ref p/\H p=none/\H'=upd H p (.tup [u,v])/\(∀xs,D1 K H l1 xs->xs[i]? =some u)/\∀ys,D1 K H l2 ys->ys[i]? =some v,λi H=>∃xs ys,D1 K H l1 xs/\D1 K H l2 ys/\(xs.length<=i\/ys.length<=i)]
structure Zt(z TI TO i1 i2 l1 l2:Addr)(i:Nat)(h:Heap):Prop where
 zg:∃f0 f1,ZG h z TI TO f0 f1/\F0 f0
 ti:IsPair h TI (.ref i1) (.ref i2)
 to:∃a b,IsPair h TO a b
 cX:IsTupIter h i1 l1 i
 cW:IsTupIter h i2 l2 i
theorem NT{P:Program}{w:World}{K:Frag}{es:List Expr}{n:Nat}{tp:Pos}{TI TO:Addr}(D:ZipApart z TI TO i1 i2 l1 l2):Turn P w K (.Tuple es n tp) (dA K l1 l2) [z,TI,TO,i1,i2] z (Zt z TI TO i1 i2 l1 l2) where
 mem:=by simp
 obj:=λi h st b hb=>by
  rintro⟨⟨f0,f1,h1,_⟩,h2,⟨a,c,h3⟩,⟨o4,h4,c4,d4⟩,⟨o5,h5,c5,d5⟩⟩:st;simp only[mem_cons,not_mem_nil,or_false]at hb;rcases hb with rfl|rfl|rfl|rfl|rfl
  .exact#[_,h1,λv z=>by cases z]
  .exact#[_,h2,λv z=>by cases z]
  .exact#[_,h3,λv z=>by cases z]
  .exact#[_,h4,λv z=>by rw[d4]at z;cases z]
  .exact#[_,h5,λv z=>by rw[d5]at z;cases z]
 keep:=λi h h' st k=>by
  rintro⟨⟨f0,f1,h1,hf⟩,h2,⟨a,c,h3⟩,⟨o4,h4,r4⟩,⟨o5,h5,r5⟩⟩:st;exact#[#[f0,f1,k _ (by simp) _ h1,hf],k _ (by simp) _ h2,#[a,c,k _ (by simp) _ h3],#[o4,k _ (by simp) _ h4,r4],#[o5,k _ (by simp) _ h5,r5]]
 item:=by
  intro X hP hw hK hc i p0 s Y H E I hf st hg;subst hP hw hK;rintro⟨xs,ys,x,y,hq1,hq2,hx,hy⟩:hg;rintro⟨its,rv,p,hz⟩:I.tuple hq1;rintro⟨jts,rw,p',hz'⟩:I.tuple hq2;rintro⟨u,hu,ru⟩:rv.get hx;rintro⟨v,hv,rv'⟩:rw.get hy;rintro⟨⟨f0,f1,h1,hf0⟩,h2,⟨a,c,h3⟩,h4,h5⟩:st;refine QT D h1 hf0 h2 h3 h4 h5 p p' (x:=u) (y:=v) (by simpa using hu) (by simpa using hv) λh' g0 g1 a' b' z1 z2 z3 z4 z5 z6 z7 z8=>#[_,rfl,?_]
  refine UQ (s:={s with heap:=h'}) z1 z2 λh3' f0' b1 b0 b2=>?_
  have nz:s.heap.objs.size≠z:=Nat.ne_of_gt (hZ h1)
  have I2:Inv X p0 Y (upd H s.heap.objs.size (.tup [x,y])) {s with heap:=h3',toks:=s.toks}:=WS (ch:=[z,TO,i1,i2]) I (λb o hb q=>by
   simp only[mem_cons,not_mem_nil,or_false,not_or]at hb;exact b2.extBut b o hb.1 (z8 b o hb.1 hb.2.1 hb.2.2.1 hb.2.2.2 q)) (λe he=>by
   rintro⟨f0,f1,f2,f3,f4,f5⟩:hf e (by simp only[mem_cons,not_mem_nil,or_false]at he ⊢;rcases he with h|h|h|h<;>simp[h])
   exact#[f0,f1,f3,f4,f5]) #[by simp[sizeLine],[u,v],.cons ru (.cons rv' .nil),_,b2.extBut _ _ nz z6,rfl,_,rfl]
  have fr:=I.Aj.fresh (Nat.le_refl s.heap.objs.size);have st':Zt z TI TO i1 i2 l1 l2 (i+1) h3':=#[#[f0',g1,b1,b0],b2.extBut _ _ D.TIz (z8 _ _ D.TIz D.TITO D.TIi1 D.TIi2 h2),#[a',b',b2.extBut _ _ D.TOz z3],let⟨o,e,r⟩:=z4;#[o,b2.extBut _ _ D.i1z e,r],let⟨o,e,r⟩:=z5;#[o,b2.extBut _ _ D.i2z e,r]];refine#[.ref s.heap.objs.size,_,I2,rfl,#[_,x,y,rfl,fr,rfl,λzs hy=>by rw[I.EM hy hq1];exact hx,λzs hz=>by rw[I.EM hz hq2];exact hy],st',λb hb=>?_]
  have:b≠s.heap.objs.size:=by
   rintro⟨o4,h4,_⟩:h4;rintro⟨o5,h5,_⟩:h5;simp only[mem_cons,not_mem_nil,or_false]at hb;rcases hb with rfl|rfl|rfl|rfl|rfl
   .exact Nat.ne_of_lt (hZ h1)
   .exact Nat.ne_of_lt (hZ h2)
   .exact Nat.ne_of_lt (hZ h3)
   .exact Nat.ne_of_lt (hZ h4)
   .exact Nat.ne_of_lt (hZ h5)
  rw[A4 this];exact(hf b hb).1
 done:=by
  intro X hP hw hK hc i p0 s Y H E I hf st hg;subst hP hw hK;rintro⟨xs,ys,hq1,hq2,hx⟩:hg;rintro⟨its,rv,p,hz⟩:I.tuple hq1;rintro⟨jts,rw,p',hz'⟩:I.tuple hq2;rintro⟨⟨f0,f1,h1,hf0⟩,h2,⟨a,c,h3⟩,h4,h5⟩:st;have hl:=rv.length;have hl':=rw.length;refine UR (I.ok.hd hc) D h1 hf0 h2 h3 h4 h5 p p' (by simp;lia) λh' eb=>#[rfl,SU (t':=s.toks) (ch:=[z,TO,i1,i2]) I (λb o hb e=>?_) λe he=>?_]
  .simp only[mem_cons,not_mem_nil,or_false,not_or]at hb;exact eb b o hb.1 hb.2.1 hb.2.2.1 hb.2.2.2 e
  .obtain⟨f0,f1,f2,f3,f4,f5⟩:=hf e (by simp only[mem_cons,not_mem_nil,or_false]at he ⊢;rcases he with h|h|h|h<;>simp[h]);exact#[f0,f1,f3,f4,f5]
 self:=λ_ _ _ _ _ st h=>LK st.zg.choose_spec.choose_spec.1 h
variable{qs:List P}
theorem zip_get{ps:List P}{i:Nat}{p q:P}(h:ps[i]? =some p)(h':qs[i]? =some q):(MJ ps qs)[i]? =some (.tup [p,q]):=by
 unfold MJ;rw[List.getElem?_map,List.getElem?_zip_eq_some (z:=(p,q)) |>.mpr #[h,h']];rfl
theorem NP{ps:List P}:Walk W (dA W.K a b) (MJ ps qs) (λH=>A5 W H (.tup ps) (.ref a)/\A5 W H (.tup qs) (.ref b)) where
 go:=λi H h hi=>by
   rintro⟨a',vs,e,h1,h2⟩:A9.mp h.1;cases e;rintro⟨b',ws,e,h3,h4⟩:A9.mp h.2;cases e;have hi:i < ps.length/\i < qs.length:=by simpa[MJ,Nat.lt_min]using hi
   rintro⟨v,h5,_⟩:Pd.get h2 (List.getElem?_eq_getElem hi.1);rintro⟨w,h6,_⟩:Pd.get h4 (List.getElem?_eq_getElem hi.2);exact#[vs,ws,v,w,h1,h3,h5,h6]
 LN:=λi H x H' h hi hy=>by
  rintro⟨a',vs,e,h1,h2⟩:A9.mp h.1;cases e;rintro⟨b',ws,e,h3,h4⟩:A9.mp h.2;cases e;rintro⟨p,u,v,rfl,hp,rfl,hu,hv⟩:hy;rintro⟨z,h5,h6⟩:Pd.He h2 (hu vs h1);rintro⟨z',h7,h8⟩:Pd.He h4 (hv ws h3);have sm:=Ar (o:=.tup [u,v]) hp;exact#[sm,_,zip_get h5 h7,A9.mpr #[p,_,rfl,D1.of A6,.cons (h6.mono (AH.of sm)) (.cons (h8.mono (AH.of sm)) .nil)]]
 stop:=λH h=>by
  rintro⟨a',vs,e,h1,h2⟩:A9.mp h.1;cases e;rintro⟨b',ws,e,h3,h4⟩:A9.mp h.2;cases e;refine#[vs,ws,h1,h3,?_];have:=Paired.length h2;have:=Paired.length h4;simp[MJ]
  lia
theorem Xb:bootBuiltins "zip"=some (.type "zip"):=by decide +kernel
def Wi(r:V->V->Hp->Prop):List V->Hp->Prop
 |[v,w],H=>r v w H
 |_,_=>False
theorem Mb{r:V->V->Hp->Prop}{vs:List V}(h:Wi r vs H):∃v w,vs=[v,w]/\r v w H:=by
 match vs,h with
 |[v,w],h=>exact#[v,w,rfl,h]
theorem VW(L:Bb ct X W cf k){pos:Pos}{tg:Expr}{ta tb:TE}(ht:Cb tg=true)(ho:ct.own x=true)(hx:x="zip")(st:A7 a=true)(st':A7 b=true)(ha:PE X a ta)(hb:PE X b tb):PI X tg (.Call (.Name x p) [a,b] [] pos) (XY W Jf ta tb):=by
 subst hx;rintro⟨g1,g2,g3,g4⟩:L.ET ho;intro p0 s Y H R I h;refine Call_ (CJ I g1 g2 Xb (PyProof.Rows.callWith_type1 (AS ((AB ha (AB hb Bv (A2 st' [] _)) (A2 st [_] _)) pos p0 s Y H (Wi λu v H2=>∃x y xs,A5 W H2 x u/\A5 W H2 y v/\Jf (.p (.tup [x,y]))=some xs/\∀J,Walk W J xs (λH=>A5 W H x u/\A5 W H y v)->R J H2) I h) λus s1 ⟨vs,H1,I1,r1,q1⟩=>?_) (A2 st [_] _) (by rw[A2 st' [] _];rfl)));rintro⟨u,v,rfl,px,py,zs,h1,h2,e,q⟩:Mb q1;rintro⟨q2,e1,e⟩:Ab e;cases e1;rintro⟨xs,e2,e⟩:Ab e;rintro⟨ys,e3,rfl⟩:AU e;cases P.Bs e2;cases P.Bs e3;rintro⟨l1,vs,rfl,k1,k2⟩:A9.mp h1;rintro⟨l2,ws,rfl,k3,k4⟩:A9.mp h2;have w:=NP (W:=W) (ps:=xs) (qs:=ys) (a:=l1) (b:=l2);rw[L.K]at w k1 k3;rintro⟨its,rv,pl,hz⟩:I1.tuple k1;rintro⟨jts,rv',pl',hz'⟩:I1.tuple k3;cases r1 with
 |cons r rr=>
   cases rr with
   |cons r' rr=>
   cases rr;cases r;cases r';cases tg with
   |Tuple es n tp=>
     refine Ts pl pl' λh' zs D hsz kp=>LK (s:={s1 with heap:=h'}) zs.zg.choose_spec.choose_spec.1 ?_
     have I2:Inv X p0 Y H1 {s1 with heap:=h'}:=I1.kept (t':=s1.toks) kp;refine#[_,_,_,_,H1,rfl,I2,NT D,#[zs.zg,zs.ti,zs.to,zs.cX,zs.cW],λb hb=>?_,q _ w]
     have hb:s1.heap.objs.size<=b:=by
      simp only[mem_cons,not_mem_nil,or_false]at hb;rcases hb with h|h|h|h|h<;>rw[h]<;>lia
     exact I1.Ll hb (I1.Aj.fresh hb)
   |_=>cases ht
end
section
variable{X:Cx}{W:Wd}{ct:Ct}{cf:CF}{k:Nat}
theorem Z4(hK:W.K=X.K):BG X (binaryOp .Mult) (AV W mulC):=by
 refine EU Wa λi j k H Q e q=>?_
 rintro⟨h,rfl⟩:A3 e;exact#[i,j,rfl,rfl,h,q]
theorem W7(L:Bb ct X W cf k)(op:Operator)(g:C->C->Option C)(h:bB op=some g):BG X (binaryOp op) (AV W g):=by
 cases op with
 |Add=>cases h;exact Z7 L.K
 |Sub=>cases h;exact Z1
 |Mult=>cases h;exact Z4 L.K
 |Mod=>cases h;exact Z5
 |FloorDiv=>cases h;exact Wk
 |Pow=>cases h;exact Z2
 |_=>cases h
def dR(n:Nat):String:=if n=0 then "NoneType" else if n=1 then "bool" else if n=2 then "int" else if n=3 then "str" else if n=4 then "tuple" else if n=7 then "list" else "dict"
def V1:Ty->String
 |.int=>"int"| .bool=>"bool"| .str=>"str"| .tuple=>"tuple"| .list=>"list"
theorem Dv(K:Frag)(n:Nat)(t:Ty)(h:n=0\/n=1\/n=2\/n=3\/n=4\/n=7\/n=8):kitOne K (.type (dR n)) (.type (V1 t))=some (t.has n):=by
 rcases h with rfl|rfl|rfl|rfl|rfl|rfl|rfl<;>cases t<;>kernel_rfl
variable{p0:Oa}{s:Shared}{H:Hp}
theorem Ye(hK:W.K=X.K){Y:L2.St}{b:Bool}{Q:Va}(I:∅)(rx:RelV x v)(h1:Dj W H c x)(e:FI t c=some (bC b))(q:∀tk,Q (.bool b) {s with toks:=tk}):
 (X|||(call (.builtin "isinstance") [v,.type (V1 t)])) Q X.xe s:=by
 have nt:∀z,(Value.type (V1 t))=z->True:=λ_ _=>trivial
 unfold FI at e;split at e
 .cases e
 rename_i hty;have hb:t.has c.ty=b:=by injection e with e;injection e with e;injection e
 rw[<-hb]at q;cases c with
 |obj _ _=>exact absurd (.inr rfl) hty
 |lst o ps=>
   rintro⟨a,vs,rfl,k1,k2⟩:Bn rfl h1;cases rx;rintro⟨its,_,⟨o,n,e,c,_⟩,_⟩:I.list (.inl k1);exact kia_one kitx_list I.Gz #[o,e,c] (Dv X.K 7 t (by simp)) (λz=>by cases t<;>cases z) q
 |Bl o kvs=>
   rintro⟨a,es,ep,rfl,hd,_⟩:Gk hK I rfl h1;cases rx;exact kia_one PySem.W.kitx_dict I.Gz hd.typ (Dv X.K 8 t (by simp)) (λz=>by cases t<;>cases z) q
 |p p=>
   cases p with
   |fn _ _=>exact absurd (.inl rfl) hty
   |AG=>cases Gj h1;cases rx;exact kia_one PySem.W.kitx_none I.Gz True.intro (Dv X.K 0 t (by simp)) (λz=>by cases t<;>cases z) q
   |bl _=>cases Eg h1;cases rx;exact kia_one PySem.W.kitx_bool I.Gz True.intro (Dv X.K 1 t (by simp)) (λz=>by cases t<;>cases z) q
   |int _=>cases AZ h1;rintro⟨tk,rfl⟩:rx;exact kia_one PySem.W.kitx_int I.Gz True.intro (Dv X.K 2 t (by simp)) (λz=>by cases t<;>cases z) q
   |str _=>cases BI h1;rintro⟨tk,rfl⟩:rx;exact kia_one PySem.W.kitx_str I.Gz True.intro (Dv X.K 3 t (by simp)) (λz=>by cases t<;>cases z) q
   |tup ps=>
     rintro⟨a,vs,rfl,k1,k2⟩:CH h1;cases rx;rintro⟨its,_,⟨o,e,c,_⟩,_⟩:I.tuple (hK▸k1);exact kia_one PySem.W.kitx_tuple I.Gz #[o,e,c] (Dv X.K 4 t (by simp)) (λz=>by cases t<;>cases z) q
   |box n ps=>
     rintro⟨a,vs,rfl,k1,k2⟩:CN.mp (GW h1);cases rx;rintro⟨rfl,o,k1⟩:k1;rintro⟨its,_,⟨o,n,e,c,_⟩,_⟩:I.list (.inl (.inr #[o,k1]));exact kia_one kitx_list I.Gz #[o,e,c] (Dv X.K 7 t (by simp)) (λz=>by cases t<;>cases z) q
def aW(T:V)(r:V->Hp->VK->Prop):List V->Hp->VK->Prop
 |[v,w],H,Q=>w=T/\r v H Q
 |_,_,_=>False
theorem ZH(hK:W.K=X.K)(t:Ty):Dh X (.builtin "isinstance") (aW (.ty (V1 t)) (BZ W (FI t))):=by
 intro p0 s Y H xs us Q I r h;cases r with
 |nil=>exact h.elim
 |cons r1 r2=>
   cases r2 with
   |nil=>exact h.elim
   |cons r3 r4=>
     cases r4 with
     |cons _ _=>exact h.elim
     |nil=>
       rintro⟨rfl,c1,c,h1,e,q⟩:h;cases r3
       obtain⟨b,rfl⟩:∃b,c=bC b:=by
        unfold FI at e;split at e
        .cases e
        .exact#[_,(Option.some.inj e).symm]
       exact Ye hK I r1 h1 e λtk=>#[.bl b,H,I.tok tk,rfl,q.bl]
theorem R8{t:Ty}(h:tyName y=some t):bootBuiltins y=some (.type (V1 t)):=by
 unfold tyName at h;split at h
 .rename_i e;subst e;cases h;exact Xh
 split at h
 .rename_i e;subst e;cases h;exact Tv
 split at h
 .rename_i e;subst e;cases h;exact Xc
 split at h
 .rename_i e;subst e;cases h;exact Ki
 .obtain⟨rfl,rfl⟩:=A3 h;exact J5
variable{pos:Pos}
theorem W3(L:Bb ct X W cf k){g:C->Option C}{te:TE}(ho:ct.own x=true)(hx:x="isinstance")(hg:SM ct (.Name y q)=some g)(hp:A7 e=true)(he:PE X e te):PE X (.Call (.Name x p) [e,.Name y q] [] pos) (λY H Q=>te Y H λv H1=>BZ W g v H1 Q):=by
 subst hx;rintro⟨g1,g2,g3,g4⟩:L.ET ho;rintro⟨y',ey,hg⟩:Ab hg;cases ey;split at hg
 case isFalse=>cases hg
 rename_i hy;rintro⟨t,et,rfl⟩:AU hg;rintro⟨y1,y2,y3,y4⟩:L.ET hy;refine Ai (Dq (ZH L.K t) g1 g2 Xg (AB (Cj he) (AB (RZ (pos:=q) y1 y2 (R8 et) (show RelV (.ty (V1 t)) (Value.type (V1 t))from rfl) y4 y3) Bv (A2 rfl [] _)) (A2 hp [_] _)) g4 g3 (A2 hp [_] _) rfl) λY H Q z=>#[_,z,λv H1 r=>?_]
 exact#[rfl,r]
theorem ML{n:Int}{g:Hp->Prop}:Walk W (aq m (n - m).toNat) (Az m n) g where
 go:=λi H _ hi=>by
   show i < (n-m).toNat;simpa[Az]using hi
 LN:=λi H x H' _ hi hy=>by
  rintro⟨rfl,rfl⟩:hy;refine#[Dc.refl _,_,?_,Aa.mpr rfl];have hi:i < (n-m).toNat:=by simpa[Az]using hi
  simp[Az,hi]
 stop:=λH _=>by
  show(n-m).toNat<=_;simp[Az]
variable{ta tb:TE}
theorem S4(L:Bb ct X W cf k){tg:Expr}(ho:ct.own x=true)(hx:x="range")(st:A7 a=true)(st':A7 b=true)(ha:PE X a ta)(hb:PE X b tb):PI X tg (.Call (.Name x p) [a,b] [] pos) (XY W KH ta tb):=by
 subst hx;rintro⟨g1,g2,g3,g4⟩:L.ET ho;intro p0 s Y H R I h;refine Call_ (CJ I g1 g2 boot_range (PyProof.Rows.callWith_type1 (AS ((AB ha (AB hb Bv (A2 st' [] _)) (A2 st [_] _)) pos p0 s Y H (Wi λu v H2=>∃x y xs,A5 W H2 x u/\A5 W H2 y v/\KH (.p (.tup [x,y]))=some xs/\∀J,Walk W J xs (λH=>A5 W H x u/\A5 W H y v)->R J H2) I h) λus s1 ⟨vs,H1,I1,r1,q1⟩=>?_) (A2 st [_] _) (by rw[A2 st' [] _];rfl)));rintro⟨u,v,rfl,px,py,zs,h1,h2,e,q⟩:Mb q1;rintro⟨q2,e1,e⟩:Ab e;cases e1;rintro⟨m,e2,e⟩:Ab e;rintro⟨n,e3,e⟩:Ab e;rintro⟨hmn,rfl⟩:A3 e;cases P.AW e2;cases P.AW e3;cases Aa.mp h1;cases Aa.mp h2;cases r1 with
 |cons r rr=>
   cases rr with
   |cons r' rr=>
     cases rr;rintro⟨t,rfl⟩:r;rintro⟨t',rfl⟩:r';exact call_range_2 (JC I1 (by lia) (by lia) (by lia) (by lia) (q _ ML))
theorem Xf:bootBuiltins "max"=some (.builtin "max"):=by decide +kernel
theorem Xe:bootBuiltins "min"=some (.builtin "min"):=by decide +kernel
theorem W4(L:Bb ct X W cf k){g:Int->Int->Option Int}(ho:ct.own x=true)(hg:(x="max"/\g=Pb)\/(x="min"/\g=P9))(sa:A7 a=true)(sb:A7 b=true)(ha:PE X a ta)(hb:PE X b tb):PE X (.Call (.Name x p) [a,b] [] pos) (Vc (AV W (Aw g)) ta tb):=by
 rintro⟨g1,g2,g3,g4⟩:L.ET ho
 have key:∀{H:Hp} {x y:V} {g:Int->Int->Option Int} {f:Int->Int->Int} {Q:VK},(∀i j,g i j=some (f i j))->AV W (Aw g) x y H Q->∃i j,[x,y]=[.int i,.int j]/\Q (.int (f i j)) H:=λ{H x y g f Q} hf ⟨c1,c2,c,h1,h2,e,q⟩=>by
  rintro⟨i,ei,e⟩:Ab e;rintro⟨j,ej,e⟩:Ab e;rintro⟨r,er,rfl⟩:AU e;rw[hf]at er;cases er;cases C.AW ei;cases C.AW ej;cases AZ h1;cases AZ h2;exact#[i,j,rfl,q.int]
 rcases hg with⟨rfl,rfl⟩|⟨rfl,rfl⟩
 .exact Ai (Dq (ND L.calm) g1 g2 Xf (AB (Cj ha) (AB (Cj hb) Bv (A2 sb [] _)) (A2 sa [_] _)) g4 g3 (A2 sa [_] _) (by rw[A2 sb [] _];rfl)) λY H Q z=>#[_,z,λv H1 r=>#[_,r,λw H2 r2=>key (λ_ _=>rfl) r2]]
 .exact Ai (Dq (NC L.calm) g1 g2 Xe (AB (Cj ha) (AB (Cj hb) Bv (A2 sb [] _)) (A2 sa [_] _)) g4 g3 (A2 sa [_] _) (by rw[A2 sb [] _];rfl)) λY H Q z=>#[_,z,λv H1 r=>#[_,r,λw H2 r2=>key (λ_ _=>rfl) r2]]
theorem Fx(L:Bb ct X W cf k){Y:L2.St}{kvs:List (P×P)}{es:List DictEntry}{ep:Nat}{A:Around}{E:Va}{Q:Bool->Shared->Prop}(hu:A.units + 150 < cLine)(I:∅)(hd:Ci s.heap a es ep)(ok:DD W H a kvs es)(hk:Bk kvs p=true)(hy:A5 W H p y)(ry:RelV y u)(h:∀tk,Q (CT kvs p).isSome {s with toks:=tk}):
 wpAny (model X.prog X.w) A (contains (.ref a) u) Q E s:=by
 have ty:=hd.typ;refine wpAny_contains_slot ty slot_dict_contains (wpAny_call_entry slot_dict_contains ty entry_dict_contains ?_ (args_dict_contains _ _));show wpAny _ _ (dictGet a u >>= _) _ _ s;rw[<-L.w];refine wB (GP (by rw[L.w];exact I.Aj) (by rw[L.K];exact I.Gz) (by first|lia|(rw[in1_units];lia)) hd ok hk hy ry (λz tk=>?_) λp' y' z hz _ rz tk=>?_)
 .refine xN (by decide) ?_;unfold Builtin.Dict.pendingKey?;rw[ok.sm];refine wB ?_;refine xN (by decide) (wpAny_pure (wpAny_pure #[_,rfl,?_]));have:=h tk;rw[z]at this;rw[L.w];exact wpAny_truthy_bool this
 .refine wpAny_ite_split (λ_=>wpAny_pure #[_,rfl,?_]) (λhab=>absurd rfl hab);have:=h tk;rw[hz]at this;rw[L.w];exact wpAny_truthy_bool this
theorem SY(L:Bb ct X W cf k){Y:L2.St}{t:Bool}{Q:VK}(I:∅)(rx:RelV x v)(ry:RelV y u)(h1:Dj W H c1 x)(h2:Dj W H c2 y)(e:inD c1 c2=some t):
 (Q (.bl t) H->(X|||(compareOp .In v u)) (EP X p0 Y Q) X.xe s)/\(Q (.bl (!t)) H->(X|||(compareOp .NotIn v u)) (EP X p0 Y Q) X.xe s):=by
 rintro⟨p,e1,e⟩:Ab e;rintro⟨kvs,e2,e⟩:Ab e;rintro⟨hk,rfl⟩:A3 e;cases C.BO e1;rintro⟨a,es,ep,rfl,hd,ok⟩:Gk L.K I e2 h2;cases ry;have hu:=L.un;refine#[λq=>?_,λq=>?_]
 .show wpAny _ _ (contains (.ref a) v >>= _) _ _ s;exact wB (Fx L (by lia) I hd ok hk (GW h1) rx λtk=>wpAny_pure #[.bl _,H,I.tok tk,rfl,q])
 .show wpAny _ _ (contains (.ref a) v >>= _) _ _ s;exact wB (Fx L (by lia) I hd ok hk (GW h1) rx λtk=>wpAny_pure #[.bl _,H,I.tok tk,rfl,q])
theorem Mm(L:Bb ct X W cf k){Y:L2.St}{t:Bool}{Q:VK}(I:∅)(rx:RelV x v)(ry:RelV y u)(h1:Dj W H c1 x)(h2:Dj W H c2 y)(e:IL c1 c2=some t):
 (Q (.bl t) H->(X|||(compareOp .In v u)) (EP X p0 Y Q) X.xe s)/\(Q (.bl (!t)) H->(X|||(compareOp .NotIn v u)) (EP X p0 Y Q) X.xe s):=by
 rcases or_some e with e|e
 .exact WV L.K I rx ry h1 h2 e
 .exact SY L I rx ry h1 h2 e
theorem bc(L:Bb ct X W cf k):BG X (compareOp .In) (AV W Nn):=by
 rintro p0 s Y H x y v u Q I rx ry ⟨c1,c2,c,h1,h2,e,q⟩
 rintro⟨t,et,rfl⟩:AU e;exact(Mm L I rx ry h1 h2 et).1 q.bl
theorem Z3(L:Bb ct X W cf k):BG X (compareOp .NotIn) (AV W JN):=by
 rintro p0 s Y H x y v u Q I rx ry ⟨c1,c2,c,h1,h2,e,q⟩
 rintro⟨t,et,rfl⟩:AU e;exact(Mm L I rx ry h1 h2 et).2 q.bl
theorem S6(L:Bb ct X W cf k)(op:CmpOp):BG X (compareOp op) (AV W (Nh op)):=by
 cases op with
 |Eq=>exact bh L.K L.w L.un
 |NotEq=>exact aY L.K L.w L.un
 |Lt=>exact aZ
 |LtE=>exact b7
 |Gt=>exact bf
 |GtE=>exact bg
 |Is=>exact ba
 |IsNot=>exact Z6
 |In=>exact bc L
 |NotIn=>exact Z3 L
theorem Iz(L:Bb ct X W cf k):TN ct X W:=
 #[W7 L,S6 L,Y9,Zn L.K,Yy L.K,W5 L,VY L,W3 L,S5,W2 L,VX L,W4 L,S0 L,VZ L,W6 L,VW L,S4 L]
end
section
variable{W:Wd}{cf:CF}{k:Nat}{ct:Ct}{X:Cx}
variable{H:Hp}
theorem LW{α β:Type}{rep:Rp α β}{F:Env->Res α}{Y:L2.St}{Q Q':β->Hp->Prop}(h:tG W rep F Y H Q)(k:∀b H',Ext H H'->Q b H'->Q' b H'):tG W rep F Y H Q':=by
 rintro⟨U,B,R,z⟩:h;refine#[U,B,R,?_];cases e:F U with
 |stuck=>rw[e]at z;exact z
 |ok a=>rw[e]at z;exact λb H' e1 t1 r1=>k b H' e1 (z b H' e1 t1 r1)
def Ui(W:Wd):QH:=λo i v H Q=>∃a es kvs k x,o= .ref a/\H a=some (DX a es)/\DD W H a kvs es/\Bk kvs k=true/\A5 W H k i/\A5 W H x v/\kvs.length < big/\∀es',DD W (upd H a (DX a es')) a (dput kvs k x) es'->Q (upd H a (DX a es'))
theorem RD(L:Bb ct X W cf k):TM X (Ui W):=by
 intro p0 s Y H o i v ov iv u Q I ro ri rv ⟨a,es,kvs,k,x,e,h1,h2,h3,h4,h5,h6,q⟩;subst e;cases ro;exact GO L.K (by have:=L.un;lia) L.w I h1 h2 h3 h4 h5 h6 ri rv λes' s' ok I'=>#[_,I',q es' ok]
theorem X4{own bor:Addr->Prop}{es es':List DictEntry}{kvs:List (P×P)}{fs:List Fd}{vs:List V}{n:Nat}(h:Paired (Dk W H own bor true) fs vs)(hd:TU fs vs)(ha:H a=some (DX a es))(ho:own a)(hn:vs[n]? =some (.ref a))(hf:∃kvs0,fs[n]? =some (.d kvs0))(ok:DD W (upd H a (DX a es')) a kvs es'):
 Paired (Dk W (upd H a (DX a es')) own bor true) (fs.set n (.d kvs)) vs/\TU (fs.set n (.d kvs)) vs:=by
 have kp:AH H (upd H a (DX a es')):=BR ha Hz.1 Hz.2.1;have me:Dk W (upd H a (DX a es')) own bor true (.d kvs) (.ref a):=#[a,es',rfl,#[A6,ho],ok]
 have st:∀{d:Fd} {v:V},Dk W H own bor true d v->(d.XD=true->v≠.ref a)->Dk W (upd H a (DX a es')) own bor true d v:=λ{d v} z nv=>by
  cases d with
  |p x=>exact A5.mono kp z
  |d kv=>
    rintro⟨b,eb,rfl,k1,k2⟩:z;refine#[b,eb,rfl,#[?_,k1.2],k2.mono kp];rw[A4 λe=>nv rfl (by rw[e])];exact k1.1
 rintro⟨kvs0,hf⟩:hf;clear ok
 induction n generalizing fs vs with
 |zero=>
   cases h with
   |nil=>cases hf
   |cons h1 h2=>
     cases hf;cases hn;unfold TU at hd ⊢;rw[zip_cons_cons,pairwise_cons]at hd;refine#[.cons me ?_,?_]
     .have:∀{fs:List Fd} {vs:List V},Paired (Dk W H own bor true) fs vs->(∀p∈fs.zip vs,p.1.XD=true->p.2≠.ref a)->Paired (Dk W (upd H a (DX a es')) own bor true) fs vs:=λ{fs vs} h=>by
       induction h with
       |nil=>intro _;exact .nil
       |cons h t ih=>exact λz=>.cons (st h λi=>z _ mS i) (ih λp hp=>z p (mem_cons_of_mem _ hp))
      exact this h2 λp hp i e=>hd.1 p hp rfl i e.symm
     .show List.Pairwise _ ((Fd.d kvs,V.ref a)::_);rw[pairwise_cons];exact#[λp hp _ i=>hd.1 p hp rfl i,hd.2]
 |succ n ih=>
   cases h with
   |nil=>cases hf
   |@cons d v fs vs h1 h2=>
     unfold TU at hd;rw[zip_cons_cons,pairwise_cons]at hd;rintro⟨i1,i2⟩:ih h2 hd.2 hn hf
     have hm:(Fd.d kvs0,V.ref a)∈fs.zip vs:=by
      refine mem_of_getElem? (i:=n) ?_;rw[List.getElem?_zip_eq_some];exact#[hf,hn]
     refine#[.cons (st h1 λi e=>hd.1 _ hm i rfl e) i1,?_];unfold TU at i2 ⊢;show List.Pairwise _ ((d,v)::(fs.set n (.d kvs)).zip vs);rw[pairwise_cons];refine#[λp hp i1 i2=>?_,i2];rintro⟨m,hm'⟩:mem_iff_getElem?.mp hp;rintro⟨e1,e2⟩:List.getElem?_zip_eq_some.mp hm';rw[List.getElem?_set]at e1;split at e1
     .rename_i e;subst e;have e3:V.ref a=p.2:=Option.some.inj ((show vs[n]? =some (V.ref a)from hn).symm.trans e2);rw[<-e3];exact λe=>hd.1 _ hm i1 rfl e
     .exact hd.1 p (mem_of_getElem? (List.getElem?_zip_eq_some.mpr #[e1,e2])) i1 i2
theorem OZ{c:C}{fs:List Fd}(h:c.Wj =some fs):c= .obj true fs:=by
 cases c with
 |obj o gs=>
   cases o with
   |true=>cases h;rfl
   |false=>cases h
 |_=>cases h
theorem Py{d:Fd}{kvs:List (P×P)}(h:d.WD =some kvs):d= .d kvs:=by cases d<;>cases h;rfl
theorem Vv{K:Frag}{i n:Nat}{f:Str}{t u:T}{D:Ends}{Y:L2.St}(hn:W.fl.Nodup)(hf:W.fl[n]? =some f)(hc:Kq K W.lc)(na:C5 K W.lc f)(h:tS W [] (Nv.exec cf As (.Ce i false (Ds (Bz n)) [t,u])) D Y H):
 Js (tG W (rV W) (ev cf t)) (Zw (Ve K (EO i) f) (tG W (rV W) (ev cf u)) (Ui W)) D Y H:=by
 rintro⟨Hin,A0,Bo,U,S,hA⟩:h;replace hA:Bh W Hin A0 Bo [] D Y (if(!(A8 U i).any λ_=>true)=true then .stuck else(BK cf [t,u] U).fl λcs=>match(A8 U i).bind λc=>(Ds (Bz n)) c cs with|some c'=>.nx (U.set i (some c'))|none=>.stuck):=hA;cases hg:A8 U i with
 |none=>rw[hg]at hA;exact hA.elim
 |some c=>
   rw[iN (by rw[hg];simp)]at hA;rintro⟨O,hO⟩:S.env;rintro⟨x,q1,q2⟩:hO i c hg
   have hc0:∃cs c',Ds (Bz n) c cs=some c':=by
    cases ea:BK cf [t,u] U with
    |stuck=>rw[ea]at hA;exact hA.elim
    |ok cs=>
      rw[ea,hg]at hA;cases ec:Ds (Bz n) c cs with
      |none=>
        replace hA:Bh W Hin A0 Bo [] D Y (match Ds (Bz n) c cs with|some c'=>.nx (U.set i (some c'))|none=>.stuck):=hA;rw[ec]at hA;exact hA.elim
      |some c'=>exact#[cs,c',ec]
   rintro⟨cs0,c0',hc0⟩:hc0;rintro⟨_,_,_,hc0⟩:IA hc0;rintro⟨fs,e1,hc1⟩:Ab hc0;cases OZ e1;rintro⟨a,dx,vs,rfl,ha,ho,hp,hd⟩:q2;rintro⟨fd,e2,hc2⟩:Ab hc1;rintro⟨kvs0,e3,_⟩:Ab hc2;cases Py e3;rintro⟨w,hw,a',es,ew,_⟩:Pd.get hp e2;subst ew;refine LW (Ga (NZ S hA hg q1)) λv H1 ex1 z=>#[_,q1,a,_,dx,_,_,rfl,ex1.but a _ ha rfl,hc,na,Ib hn hf hw,?_]
   refine LW (Ga z) λw2 H2 ex2 z=>?_
   rintro⟨own,bor,c,cs,c',r1,r2,e,q⟩:LU z;rintro⟨xv,xk,rfl,e⟩:IA e;rintro⟨fs2,f1,e⟩:Ab e;rintro⟨fd,f2,e⟩:Ab e;rintro⟨kvs,f3,e⟩:Ab e;rintro⟨pk,f4,e⟩:Ab e;rintro⟨px,f5,e⟩:Ab e;rintro⟨hk,rfl⟩:A3 e;cases OZ f1;cases Py f3;cases C.BO f4;cases C.BO f5;rintro⟨z1,z2,ez,rr1,rr2⟩:Ow r2;cases ez;rintro⟨a2,dx2,vs2,g1,g2,g3,g4,g5⟩:r1;cases g1;have g6:H2 a=some (.ins W.lc dx (W.fl.zip vs)):=ex2.but a _ (ex1.but a _ ha rfl) rfl;rw[g6]at g2;rintro⟨w2,hw2,b,es2,ew2,dd,ok⟩:Pd.get g4 f2
   have:w2=V.ref a':=by
    have l1:=Ib hn hf hw;have l2:=Ib hn hf hw2;injection g2 with g2
    injection g2 with _ g2 g2'
    rw[g2',l2]at l1;exact Option.some.inj l1
   subst this;cases ew2;refine#[a',es2,kvs,pk,px,rfl,dd.1,ok,hk.1,GW rr2,GW rr1,hk.2,λes' ok'=>?_];rintro⟨y1,y2⟩:X4 g4 g5 dd.1 dd.2 hw2 #[_,f2] ok';refine q a' _ (DX a' es') .AG dd.2 dd.1 Hz #[a,dx2,vs2,rfl,?_,g3,y1,y2];have dd1:H2 a'=some (DX a' es2):=dd.1;rw[A4 λe=>by rw[<-e,g6]at dd1;exact HO.noConfusion (Option.some.inj dd1)];rw[g6,g2]
variable{j:Nat}{pos:Pos}
theorem O9(L:Bb ct X W cf k){n:Nat}{ie:Expr}(hs:ct.slot y=some j)(hf:ct.fld.idxOf? f=some n)(hi:IJ ie=false)(he:AR X W cf e t)(hie:AR X W cf ie u):PS X (.Assign [.Subscript (.Attribute (.Name y p) f r) ie q] e pos) (rS W cf (.Ce j false (Ds (Bz n)) [t,u])):=by
 have hsw:swapsWithSole [.Subscript (.Attribute (.Name y p) f r) ie q] e pos.line X.env=pure false:=by
  show swapsWith e (some (.Subscript (.Attribute (.Name y p) f r) ie q)) pos.line X.env=pure false;cases e<;>rfl
 have hwp:swappedStores [.Subscript (.Attribute (.Name y p) f r) ie q] e X.env=pure none:=by cases e<;>rfl
 rintro⟨f1,f2,f3,f4⟩:L.fld;have hj:=Cp hf;refine C0 (KJ he.v (OK (OQ (L.pv hs) rfl) hie.v (RD L) ?_) hsw hwp rfl) λD Y H z=>Vv (f1▸f2) (f1▸hj) L.Uv (f4 f (mem_of_getElem? hj)) z
 intro v;cases ie<;>first|rfl|cases hi
theorem O8(L:Bb ct X W cf k){n:Nat}(hs:ct.slot y=some j)(hf:ct.fld.idxOf? f=some n)(he:AR X W cf e t):PS X (.Assign [.Attribute (.Name y p) f q] e pos) (rS W cf (.Ce j false (EJ (FF n)) [t])):=by
 rintro⟨f1,f2,f3,f4⟩:L.fld;have hj:=Cp hf;refine C0 (VL (L.pv hs) (OP he.v) ?_) λD Y H z=>Vs (f1▸f2) (f1▸f3) (f1▸hj) L.Uv (f4 f (mem_of_getElem? hj)) z
 cases e<;>rfl
theorem Vk(L:Bb ct X W cf k){t:S}(hc:BF e=false)(h:Zm ct e=some t):PS X (.Expr e pos) (rS W cf t):=by
 rintro⟨q,h1,h⟩:Ab h;rintro⟨f,h2,h⟩:Ab h;rintro⟨ts,h3,rfl⟩:AU h;rintro⟨x,p,ap,cp,rfl,hm,hs⟩:ID h1;rintro⟨m1,a,m2,m3⟩:L.NM _ _ h2;exact C0 (Ej (Um L.Uv m2 m3 (L.room.mono (Nat.le_succ _)) hm (L.pv hs) (E4 (λe _=>EY Iz (sizeOf e) e (Nat.le_refl _)) L h3))) λD Y H z=>RF m1 z
theorem Vi(L:Bb ct X W cf k):dr ct X W cf k:=
 #[Rg L,Ob L,λ_ h=>Vj Iz L h,Rh (i:=0) L,O9 L,O8 L,Vk L]
theorem Kj{ss:List Stmt}{ts:List S}(L:Bb ct X W cf k)(h:SI ct ss=some ts):NJ X ss (cU W cf ts):=
 M6 (λs _=>WK Iz Vi (sizeOf s) s (Nat.le_refl _)) L h
end
section
variable{P:Program}{w:World}{K:Frag}{mg:Str->Option Value}
structure Top(c c':Ct):Prop where
 fns:c.fns=c'.fns
 NN:c.NN=c'.NN
 NM:c.NM=c'.NM
 cls:c.cls=c'.cls
 fld:c.fld=c'.fld
 gl:c.gl=c'.gl
 lt:c.lt=c'.lt
theorem Top.lam{c c':Ct}(h:Top c c')(as:Arguments)(sc:Scope):c.lam as sc=c'.lam as sc:=by
 rintro⟨N,s,f,m1,m2,cl,fl,g,d,lm,lt⟩:c;rintro⟨N',s',f',m1',m2',cl',fl',g',d',lm',lt'⟩:c';rintro⟨rfl,rfl,rfl,rfl,rfl,rfl,rfl⟩:h;rfl
def Hb(fns:List LI)(n:Nat):Bool:=(fns[n]?).any LI.mu
structure cu(K:Frag)(mg:Str->Option Value)(W:Wd)(nd:Nat)(fad:Nat->Addr)(FL:List LI)(ct:Ct):Prop where
 kk:W.K=K
 fa:∀n c a,W.fa n c a↔(n < nd/\Hb FL n=false/\c=[]/\a=fad n)
 gl:∀x c,ct.gl.lookup x=some c->∃u v,mg x=some u/\RelV v u/\∀W':Wd,TL W W'->∀H own bor,AF W' H own bor c.bor v
 own:∀x∈J6,ct.gl.lookup x=none->ct.fns.lookup x=none->ct.cls.lookup x=none->mg x=none
 fns:∀x f,ct.fns.lookup x=some f->mg x=some (.ref (fad f))/\f < nd/\Hb FL f=false
 Uv:Kq K W.lc
 fld:W.fl=ct.fld/\ct.fld.Nodup/\ct.fld.length < 1000/\∀f∈ct.fld,C5 K W.lc f
 NN:∀m f,ct.NN.lookup m=some f->m∉W.fl/\Meth K W.lc m (fad f)/\f < nd/\Hb FL f=false
 NM:∀m f,ct.NM.lookup m=some f->m∉W.fl/\Meth K W.lc m (fad f)/\f < nd/\Hb FL f=true
 cls:∀x f,ct.cls.lookup x=some f->mg x=some (.ref W.lc)/\Mk K W.lc (fad f)/\f < nd/\Hb FL f=true
structure QN(K:Frag)(W:Wd)(c0:Ct)(a:Addr)(fi:LI)(fd:FuncData)(ps:List Str):Prop where
 ex:∃(x qual:Str) (st:Stmt) (ct:Ct),TQ K x qual st a fd/\EG ct.N ps (Bp st)/\SI ct (DM st)=some fi.body/\fi.np=ps.length/\fi.nl=ct.N.length/\ct.sc=Bp st/\ct.df=true/\Top ct c0/\Binds K fd ps []/\
   ∀lp l,ct.Nd.lookup lp=some l->∃c P,fd.code= .ref c/\codeHdIn K c P=true/\(P,lp,(qual++".<locals>.")++"<lambda>")∈W.tabs
structure Good(K:Frag)(mg:Str->Option Value)(c0:Ct)(W0 W:Wd)(base:Heap):Prop where
 st:TL W0 W
 By:K.In base
 fa:∀n c a,W.fa n c a->W0.fa n c a\/EH c0 (λl n t=>c0.lt l n t=true) W base n c a
 blt:∀q∈W0.tabs,base.BuiltinsAt mg q.1/\mainGlobals≠q.1
theorem Qv{h h':Heap}{P:Addr}(k:∀b o,h.get? b=some o->h'.get? b=some o)(x:h.BuiltinsAt mg P):h'.BuiltinsAt mg P:=
 let⟨bm,o,q1,q2,q3,q4,q5,q6⟩:=x;#[bm,o,q1,q2,q3,q4,k _ _ q5,q6]
variable{base:Heap}
theorem TQ.eA{qual:Str}{st:Stmt}{fd:FuncData}{N ps:List Str}{k:Nat}{sp:Sp}(F:TQ K x qual st f fd)(S:EG N ps (Bp st))(len:∀vs H Q E,sp vs H Q E->vs.length=ps.length)
 (hbody:∀(A:Around) (outer:List PySem.Env) (s:Shared) (H:Hp) (vs:List V) (Q:VK) (E:XK),BU k (A.deeper (envOfC qual (Bp st) s.heap.objs.size f fd.code))->sp vs H Q E->
  ∃t,NJ (LA MI P w K mg base N qual (Bp st) f fd.code A outer s H E) (DM st) t/\t {nx:=λ_ H'=>Q .AG H',rt:=Q} (start N vs) H):GV P w K mg base MI (k+1) f fd ps sp:=by
 rintro⟨oc,od,kV,doc,pm,an,cdv,ct,osl,rfl,lk,hcd⟩:F.ex;exact Q4 lk hcd S len hbody
variable{LT:Nat->Nat->T->Prop}{W:Wd}{caps:List Nv.P}
theorem EH.top{c c':Ct}(h:Top c c'){l:Nat}(x:EH c LT W base l caps a):EH c' LT W base l caps a:=by
 rintro⟨qual,y,fr,as,b,sc,clos,pm,ctv,cc,t,is,r⟩:x;rw[h.lam as sc]at r;exact#[qual,y,fr,as,b,sc,clos,pm,ctv,cc,t,is,r]
variable{H:Hp}
theorem VF{cf:CF}{n:Nat}{vs:List V}{Q:VK}{E:XK}(hv:vs.length=n)(h:QP W (Cu cf As #[n,n,false,[.ret t]]) vs H Q E):tG W (rV W) (ev cf t) (vs.map some) H Q:=by
 have z:=Mz (E:=E) (N:=List.replicate n #[[].toArray]) (fi:=#[n,n,false,[.ret t]]) (by simp) hv h;have e:L2.start (List.replicate n #[[].toArray]) vs=vs.map some:=by unfold L2.start;rw[List.length_replicate,hv,Nat.sub_self,List.replicate_zero,append_nil]
 rw[e]at z
 have z2:tS W [] (λU=>(ev cf t U).fl λc=>if c.own then .ret c else .stuck) {nx:=λ_ H'=>Q .AG H',rt:=Q} (vs.map some) H:=by
  rintro⟨Hin,A0,Bo,U,S,hA⟩:z;refine#[Hin,A0,Bo,U,S,?_];replace hA:Bh W Hin A0 Bo [] {nx:=λ_ H'=>Q .AG H',rt:=Q} (vs.map some) (((ev cf t U).fl λc=>if c.own then .ret c else .stuck).then λU=>.nx U):=hA;show Bh W Hin A0 Bo [] {nx:=λ_ H'=>Q .AG H',rt:=Q} (vs.map some) ((ev cf t U).fl λc=>if c.own then .ret c else .stuck);generalize ev cf t U=r at hA ⊢;cases r with
  |stuck=>exact hA
  |ok c=>
    cases ho:c.own with
    |true=>simp only[Res.fl,ho]at hA ⊢;exact hA
    |false=>simp only[Res.fl,ho]at hA ⊢;exact hA
 exact Ud z2
theorem Ht{own:Nat->Addr->Prop}{bor:Addr->Prop}(is:List Int):∀{j:Nat} {cs:List C} {vs:List V},BB W H own bor j cs vs->BB W H own bor j (cs++(is.map Nv.P.int).map C.p) (vs++is.map V.int)
 | j,[],vs,h=>by
   have h:vs=[]:=h;subst h
   induction is generalizing j with
   |nil=>rfl
   |cons i is ih=>exact#[.int i,is.map V.int,rfl,(show A5 W H (.int i) (.int i)from Aa.mpr rfl),ih (j+1) rfl]
 |j,_::_,_,⟨v,r,q,h1,h2⟩=>by subst q;exact#[v,_,rfl,h1,Ht is h2]
theorem HP{base':Heap}(k:∀b o,base.get? b=some o->base'.get? b=some o)(h:base.IsCell c (some u)):base'.IsCell c (some u):=let⟨o,ho,hd⟩:=h;#[o,k _ _ ho,hd]
variable{W':Wd}
theorem EH.mono{c:Ct}{base':Heap}{l:Nat}(hw:∀q∈W.NA,q∈W'.NA)(k:∀b o,base.get? b=some o->base'.get? b=some o)(x:EH c LT W base l caps a):EH c LT W' base' l caps a:=by
 rintro⟨qual,y,fr,as,b,sc,clos,pm,ctv,cc,t,is,h1,h2,h3,h4,h5,h6,h7,h8,h9,h10,h11⟩:x;exact#[qual,y,fr,as,b,sc,clos,pm,ctv,cc,t,is,k _ _ h1,hw _ h2,h3,h4,h5,λx c e=>let⟨u,z⟩:=h6 x c e;#[u,HP k z],h7,h8,λi x n e1 e2=>let⟨c,u,z1,z2,z3⟩:=h9 i x n e1 e2;#[c,u,z1,HP k z2,z3],h10,h11]
theorem TL.trans{W'':Wd}(a:TL W W')(b:TL W' W''):TL W W'':=#[a.K.trans b.K,a.w.trans b.w,a.lc.trans b.lc,a.fl.trans b.fl,a.tabs.trans b.tabs,λq h=>b.NA q (a.NA q h),λn c d h=>b.fa n c d (a.fa n c d h)]
structure ck(P:Program)(w:World)(K:Frag)(mg:Str->Option Value)(fns:List LI)(nd:Nat)(fad:Nat->Addr)(k:Nat)(W:Wd)(base:Heap):Prop where
 fv:∀n c a,W.fa n c a->cx P w K mg base W (Be fns As k) (2*k+4) n c a
 fm:∀n,n < nd->Hb fns n=true->QL P w K mg base (Vl W (Be fns As k n)) (2*k+4) (fad n)
section
variable{W0:Wd}{c0:Ct}{fns:List LI}{nd:Nat}{fad:Nat->Addr}{FD:Nat->FuncData}{PS':Nat->List Str}
variable{W:Wd}{base:Heap}
theorem Pm(hw0:W0.w=w)(G:cu K mg W0 nd fad fns c0){k:Nat}(g:Good K mg c0 W0 W base)(ih:ck P w K mg fns nd fad k W base){ct:Ct}(hT:Top ct c0){X:Cx}(e1:X.prog=P)(e2:X.w=w)(e3:X.K=K)(e4:X.mg=mg)(e5:X.base=base)(hN:X.N=ct.N)(nd':X.N.Nodup)
 (sc:XM ct.sc X.env.scope)(fn:ct.df=true->∀x,X.fn x=true)(calm:X.calm=true)(room:BU (2*k+4+1) X.A)(po:PassesOwn (model X.prog X.w) X.A X.env X.xe)
 (lam:∀lp l,ct.Nd.lookup lp=some l->Xq X W (Be fns As k) (2*k+4) ct (λl n t=>ct.lt l n t=true) lp):Bb ct X W (Be fns As k) (2*k+4):=by
 subst e1 e2 e3 e4 e5;have fs:∀i,i < nd->Hb fns i=false->W.fa i [] (fad i):=λi hi hm=>g.st.fa _ _ _ ((G.fa _ _ _).mpr #[hi,hm,rfl,rfl])
 refine#[g.st.K▸G.kk,g.st.w▸hw0,hN,nd',sc,fn,calm,room,po,?_,?_,?_,g.st.lc▸G.Uv,?_,?_,?_,?_,ih.fv,lam]
 .rw[hT.gl];intro x c e;rintro⟨u,v,e1,e2,e3⟩:G.gl x c e;exact#[u,v,e1,e2,e3 W g.st]
 .rw[hT.gl,hT.fns,hT.cls];exact G.own
 .rw[hT.fns];intro x f e;rintro⟨e1,e2,e3⟩:G.fns x f e;exact#[fad f,e1,fs f e2 e3,ih.fv _ _ _ (fs f e2 e3)]
 .rw[hT.fld,<-g.st.fl,<-g.st.lc];exact G.fld
 .rw[hT.NN,<-g.st.fl,<-g.st.lc];intro m f e;rintro⟨e1,e2,e3,e4⟩:G.NN m f e;exact#[e1,_,e2,ih.fv _ _ _ (fs f e3 e4)]
 .rw[hT.NM,<-g.st.fl,<-g.st.lc];intro m f e;rintro⟨e1,e2,e3,e4⟩:G.NM m f e;exact#[e1,_,e2,ih.fm f e3 e4]
 .rw[hT.cls,<-g.st.lc];intro m f e;rintro⟨e1,e2,e3,e4⟩:G.cls m f e;exact#[e1,_,e2,ih.fm f e3 e4]
variable (hw0:W0.w=w)(G:cu K mg W0 nd fad fns c0)(hnl:nd<=fns.length)(htn:(W0.tabs.map (·.1)).Nodup)(hlt:∀l n t,c0.lt l n t=true->fns[l]? =some #[n,n,false,[.ret t]])
 (D0:∀f fi,f < nd->fns[f]? =some fi->QN K W0 c0 (fad f) fi (FD f) (PS' f))
include hw0 G hnl htn hlt D0
theorem IS{k:Nat}(ihg:∀(W:Wd) (base:Heap),Good K mg c0 W0 W base->ck P w K mg fns nd fad k W base)(g:Good K mg c0 W0 W base){n:Nat}(hf:n < nd):
 GV P w K mg base MI (2*(k+1)+4) (fad n) (FD n) (PS' n) (ZY W (Hb fns n) (Be fns As (k+1) n))/\(∃o fd,base.get? (fad n)=some o/\o.data= .func fd)/\Binds K (FD n) (PS' n) []:=by
 have hj:2*(k+1)+4=(2*k+4+1)+1:=by lia
 have hfl:=Nat.lt_of_lt_of_le hf hnl;rintro⟨x,qual,st,ct,F,S,hk,h1,h2,h3,h4,hT,hb,hlam⟩:(D0 n fns[n] hf (List.getElem?_eq_getElem hfl)).ex
 have ecf:Be fns As (k + 1) n=Cu (Be fns As k) As fns[n]:=by
  funext cs
  show(match fns[n]? with|some fi=>Cu (Be fns As k) As fi cs|none=>.stuck)=_;rw[List.getElem?_eq_getElem hfl]
 have emu:Hb fns n=fns[n].mu:=by unfold Hb;rw[List.getElem?_eq_getElem hfl];rfl
 have len0:∀{vs H Q},aE W (Be fns As (k + 1) n) vs H Q->vs.length=(PS' n).length:=λ{vs H Q} z=>by
  rintro⟨cs,O,A0,hR,_,q⟩:z;have hl:=hR.length
  by_cases hl2:cs.length=fns[n].np
  .lia
  .rw[ecf]at q;unfold Cu at q;rw[iN hl2]at q;exact q.elim
 have len:∀vs H Q E,ZY W (Hb fns n) (Be fns As (k + 1) n) vs H Q E->vs.length=(PS' n).length:=λvs H Q E z=>by
  unfold ZY at z;split at z
  .exact len0 z
  .exact len0 z
 have hb0:∃o fd,base.get? (fad n)=some o/\o.data= .func fd:=by
  rintro⟨oc,od,kV,doc,pm,an,cdv,ct,osl,e,lk,_⟩:F.ex;exact#[_,_,g.By _ _ lk,rfl]
 rw[hj];refine#[TQ.eA F S len λA outer s H vs Q E hr hsp=>?_,hb0,hb];have hvl:=len vs H Q E hsp;rw[ecf,emu]at hsp
 let X:=LA MI P w K mg base ct.N qual (Bp st) (fad n) (FD n).code A outer s H E
 have L:Bb ct X W (Be fns As k) (2 * k + 4):=by
  refine Pm (X:=X) hw0 G g (ihg W base g) hT rfl rfl rfl rfl rfl rfl S.nd (by rw[h3];exact XM.refl _) (λ_ _=>rfl) rfl hr PassesOwn.leaving λlp l e=>?_
  rintro⟨c,Pt,e2,e3,e4⟩:hlam lp l e;refine#[#[c,Pt,e2,e3,(g.blt _ e4).1,(g.blt _ e4).2,g.st.tabs▸e4],g.st.tabs▸htn,λW' base' w1 w2 w3 f a hfa=>?_];refine(ihg W' base' #[g.st.trans w1,λb o q=>w2 b o (g.By b o q),λn c a z=>?_,λq hq=>#[Qv w2 (g.blt q hq).1,(g.blt q hq).2]]).fv f [] a (w1.fa _ _ _ hfa);rcases w3 n c a z with z|z
  .rcases g.fa n c a z with y|y
   .exact .inl y
   .exact .inr (y.mono w1.NA w2)
  .right;have:=z.top hT;rw[hT.lt]at this;exact this
 exact#[_,Kj L hk,Mz h2 (by lia) hsp]
theorem Q3:∀(k:Nat) (W:Wd) (base:Heap),Good K mg c0 W0 W base->ck P w K mg fns nd fad k W base
 | 0, W,base,g=>by
   have here:∀n,n < nd->∃o fd,base.get? (fad n)=some o/\o.data= .func fd:=λn h1=>by
    have hfl:=Nat.lt_of_lt_of_le h1 hnl;rintro⟨x,qual,st,ct,F,_⟩:(D0 n fns[n] h1 (List.getElem?_eq_getElem hfl)).ex;rintro⟨oc,od,kV,doc,pm,an,cdv,ct,osl,_,lk,_⟩:F.ex;exact#[_,_,g.By _ _ lk,rfl]
   refine#[λn c a ha=>#[?_,λA outer s H us vs Q E _ _ _ z=>?_],λn hn _=>#[here n hn,λA outer s H us vs Q E _ _ _ z=>?_]]
   .rcases g.fa n c a ha with h|h
    .obtain⟨h1,_,rfl,rfl⟩:=(G.fa n c a).mp h;exact here n h1
    .obtain⟨qual,y,fr,as,b,sc,clos,pm,ctv,cc,t,is,h1,_⟩:=h;exact#[_,_,h1,rfl]
   .obtain⟨cs,O,A0,_,_,q⟩:=z;exact q.elim
   .obtain⟨cs,O,A0,_,_,q⟩:=z;exact q.elim
 | k + 1,W,base,g=>by
   have ihg:=Q3 k;have hj:2*(k+1)+4=(2*k+4+1)+1:=by lia
   refine#[λn c a ha=>?_,λn hn hm=>?_]
   rotate_left
   .obtain⟨F,hb0,hb⟩:=IS hw0 G hnl htn hlt D0 ihg g hn;rw[hm]at F;exact UG hb0 F hb
   rcases g.fa n c a ha with h|h
   .obtain⟨hf,hm,rfl,rfl⟩:=(G.fa n c a).mp h;rintro⟨F,hb0,hb⟩:IS hw0 G hnl htn hlt D0 ihg g hf;rw[hm]at F;have:=UG hb0 F hb;have e:(λcs=>Be fns As (k+1) n (cs++([]:List Nv.P).map .p))=Be fns As (k+1) n:=funext λcs=>by rw[map_nil,append_nil]
    show QL _ _ _ _ _ (QP W (λcs=>Be fns As (k+1) n (cs++([]:List Nv.P).map .p))) _ _;rw[e];exact this
   .obtain⟨qual,y,fr,as,b,sc,clos,pm,ctv,cc,t,is,hb,hcd,hS,hln,hbind,hcell,rfl,hlen,hv,ht,hLT⟩:=h;refine#[#[_,_,hb,rfl],λA outer s H us vs Q E hr e0 rv hsp=>?_];have hLT:=hlt _ _ _ hLT
    have ecf:Be fns As (k + 1) n=Cu (Be fns As k) As #[(y::fr).length,(y::fr).length,false,[.ret t]]:=by
     funext cs
     show(match fns[n]? with|some fi=>Cu (Be fns As k) As fi cs|none=>.stuck)=_;rw[hLT]
    rw[ecf]at hsp;rintro⟨cs,O,A0,hR,htb,hq0⟩:hsp;have hl:=hR.length
    have hcl:cs.length=1:=by
     by_cases hc:(cs++(is.map Nv.P.int).map C.p).length=(y::fr).length
     .simp[hlen]at hc;lia
     .exfalso;have e:Cu (Be fns As k) As #[(y::fr).length,(y::fr).length,false,[.ret t]] (cs++(is.map Nv.P.int).map C.p)= .stuck:=by unfold Cu;exact iN hc
      replace hq0:du W H A0 (Cu (Be fns As k) As #[(y::fr).length,(y::fr).length,false,[.ret t]] (cs++(is.map Nv.P.int).map C.p)) (λ_ v H'=>Q v H'):=hq0;rw[e]at hq0;exact hq0
    obtain⟨v0,rfl⟩:∃v0,vs=[v0]:=by
     rcases vs with _|⟨v0,_|⟨_,_⟩⟩
     .simp at hl;lia
     .exact#[v0,rfl]
     .simp at hl;lia
    rintro⟨u0,rfl,r0⟩:vals1 rv;have hsp:QP W (Cu (Be fns As k) As #[(y::fr).length,(y::fr).length,false,[.ret t]]) (v0::is.map V.int) H Q E:=#[_,O,A0,Ht is hR,htb,hq0];have hq:=VF (by simp[hlen]) hsp
    have hrec:s.heap.CodeRec (.ref cc) qual:=by
     rintro⟨oc,u,us,tk,d1,d2,d3⟩:htb.2 _ hcd;exact#[cc,oc,us,tk,rfl,(e0.Aj _ _ d1).1,d2,d3]
    rw[hj]at hr
    let X:=K8 P w K mg base (y::fr) qual sc a (.ref cc) clos A outer s H E
    have L:Bb (c0.lam as sc) X W (Be fns As k) (2 * k + 4):=
     Pm (X:=X) (ct:=c0.lam as sc) hw0 G g (ihg W base g) #[rfl,rfl,rfl,rfl,rfl,rfl,rfl] rfl rfl rfl rfl rfl hln.symm hS.nd (XM.refl _) (λz=>by cases z) rfl (hr.deeper _) PassesOwn.leaving λlp l e=>by cases e
    exact SG e0 hr hS hb hrec (hbind u0) hcell (by simp[hlen]) (λi x v e1 e2=>by
     rw[List.getElem?_map]at e2;rintro⟨m,e3,rfl⟩:oM e2
     exact hv i x m e1 e3) r0 (EY Iz (sizeOf b) b (Nat.le_refl _) L ht).v hq
theorem X3{k:Nat}(g:Good K mg c0 W0 W base){f:Nat}(hf:f < nd)(hm:Hb fns f=false):GV P w K mg base MI (2 * (k + 1) + 4) (fad f) (FD f) (PS' f) (QP W (Be fns As (k + 1) f)):=by
 have:=(IS (P:=P) hw0 G hnl htn hlt D0 (Q3 hw0 G hnl htn hlt D0 k) g hf).1;rw[hm]at this;exact this
end
end
inductive Each{α:Type}(R:α->Prop):List α->Prop where
 |nil:Each R []
 |cons {a:α} {l:List α} (h:R a) (t:Each R l):Each R (a::l)
variable{α:Type}
theorem Each.mem{R:α->Prop}{l:List α}(h:Each R l):∀a∈l,R a:=by
 induction h with
 |nil=>intro a ha;cases ha
 |cons h t ih=>
   intro a ha;rcases mem_cons.mp ha with z|z
   .rw[z];exact h
   .exact ih a z
theorem Each.look{β:Type}[BEq α][LawfulBEq α]{R:α×β->Prop}{l:List (α×β)}(h:Each R l){a:α}{b:β}(e:l.lookup a=some b):R (a,b):=by
 induction h with
 |nil=>simp at e
 |@cons q l h t ih=>
   rw[show q=(q.1,q.2)from rfl,lookup_cons]at e;cases hq:a == q.1 with
   |true=>
     rw[hq]at e;cases e;rw[eq_of_beq hq];exact h
   |false=>rw[hq]at e;exact ih e
def M0(n:Nat)(ts:List (Addr×Addr))(K:Frag):Sp:=λvs H Q _=>∃(a:Addr) (ns:List Int),vs=[.ref a]/\(∃o,H a=some (.CK o (.lst (ns.map V.int))))/\ns.length<=n/\(∀p∈ts,H p.2=some (.Jn [].toArray))/\∀H',Q (.bl true) H'
variable{W:Wd}
theorem HF{H:Hp}:∀(ns:List Int),Cw W H (ns.map P.int) (ns.map V.int)
 |[]=>.nil
 |n::ns=>.cons (Aa.mpr rfl) (HF ns)
theorem SF{ts:List (Addr×Addr)}(ht:∀q∈W.tabs,∃p∈ts,p.2=q.1)(hc:W.NA=[]){n:Nat}{r:List C->Res C}(hr:∀ns:List Int,ns.length<=n->r [.lst false (ns.map .int)]= .ok (.p (.bl true)))(vs:List V)(H:Hp)(Q:VK)(E:XK)(h:M0 n ts W.K vs H Q E):QP W r vs H Q E:=by
 rintro⟨a,ns,rfl,h1,h2,h3,q⟩:h;refine#[[.lst false (ns.map .int)],λ_=>0,λ_=>False,#[.ref a,[],rfl,#[a,_,rfl,.inr h1,HF ns],rfl],#[λq hq=>?_,λq hq=>by rw[hc]at hq;cases hq],?_]
 .obtain⟨p,hp,e⟩:=ht q hq;exact#[[].toArray,by rw[<-e];exact h3 p hp,trivial,λcv z=>by cases z]
 .rw[hr ns h2];intro v H' r1;rw[Eg r1.1];exact q H'
theorem Fn{o:α}:∀{l:List (Addr×α)},l.lookup a=some o->(a,o)∈l
 |[],h=>by cases h
 | (b,p)::l,h=>by
   rw[lookup_cons]at h;cases hb:a == b with
   |true=>rw[hb]at h;cases h;rw[eq_of_beq hb];exact mS
   |false=>rw[hb]at h;exact mem_cons_of_mem _ (Fn h)
def JY:Value->Bool
 |.type s=>s == "list"
 |_=>false
theorem Nc{P:Program}{w:World}{K:Frag}{mg mb:Str->Option Value}{k n:Nat}{fa:Addr}{fd:FuncData}{x:Str}{s₁:Shared}{vs:List Value}{ns:List Int}{ts:List (Addr×Addr)}
 (KX:K.In s₁.heap)(hns:s₁.heap.Ns mainGlobals mg)(hb:s₁.heap.Ns builtinsNs mb)(hbb:∀x:Str,x≠"__name__"->mb x=bootBuiltins x)(hlim:s₁.heap.NoLimit)(hg:s₁.gens= [].toArray)
 (hbm:∃bm ob,mg "__builtins__"=some (.ref bm)/\bm≠builtinsNs/\s₁.heap.get? bm=some ob/\ob.cls= .type "module"/\ob.dict=some builtinsNs/\ob.data= .plain)
 (hT:∀p∈ts,s₁.heap.get? p.2=some (tabObj [].toArray)/\codeHdIn K p.1 p.2=true/\K.lookup p.2=none)
 (ha:s₁.heap.get? a=some {cls:=.type "list",data:=.seq vs.toArray})(hi:IntsAre vs ns)(hl:ns.length<=sizeLine)(hln:ns.length<=n)(hr:BU k callerA)(hkl:∀a o,K.lookup a=some o->JY o.cls=false)
 (F:∀base:Heap,K.In base->base.Ns mainGlobals mg->(∀p∈ts,base.BuiltinsAt mg p.2/\mainGlobals≠p.2)->GV P w K mg base MI k fa fd [x] (M0 n ts K))(hbind:∀(s:Shared) (u:Value),BindsTo s fd #[[u],[]] [(x,u)]):
 codeAny (model P w) callerA (.call (.ref fa) #[[.ref a],[]]) (λr s'=>r= .ok (.ret (.bool true))/\OldK s₁.heap s'.heap/\s'.os=s₁.os/\AllBare s'.gens) s₁:=by
 have rv:=Hn hi;have lenV:=hi.length
 have haT:∀p∈ts,p.2≠a:=λp hp z=>by
  have:=(hT p hp).1;rw[z,ha]at this;cases this
 have core : ∀H:Hp,(∃o,H a=some (.CK o (.lst (ns.map V.int))))->DC P w H s₁.heap->(∀p∈ts,H p.2=some (.Jn [].toArray))->(∀b,H b≠none->(b=a/\∃o xs,H b=some (.CK o (.lst xs)))\/∃p∈ts,p.2=b)->(H a≠none->K.lookup a=none)->
  codeAny (model P w) callerA (.call (.ref fa) #[[.ref a],[]]) (λr s'=>r= .ok (.ret (.bool true))/\OldK s₁.heap s'.heap/\s'.os=s₁.os/\AllBare s'.gens) s₁:=by
  intro H hS Aj hTb hA hK;have base_of:∀{b:Addr} {o:Obj},s₁.heap.get? b=some o->H b=none->(Hd s₁.heap H).get? b=some o:=λe n=>PX e n
  have noT:∀{b:Addr} {o:Obj},s₁.heap.get? b=some o->(∀vs,o.data≠.seq vs)->(∀vs,o.data≠.fields vs)->H b=none:=λ{b o} e d1 d2=>by
   cases q:H b with
   |none=>rfl
   |some u=>
     rcases hA b (by rw[q];simp)with⟨z,_⟩|⟨p,hp,z⟩
     .subst z;rw[ha]at e;cases e;exact absurd rfl (d1 _)
     .subst z;rw[(hT p hp).1]at e;cases e;exact absurd rfl (d2 _)
  have nsK:∀{b:Addr} {m:Str->Option Value},s₁.heap.Ns b m->(Hd s₁.heap H).Ns b m:=λ{b m} ⟨o,es,ep,e,d,r⟩=>#[o,es,ep,base_of e (noT e (λ_ z=>by rw[d]at z;cases z) λ_ z=>by rw[d]at z;cases z),d,r]
  have hKb:K.In (Hd s₁.heap H):=λb o e=>base_of (KX b o e) (by
   cases q:H b with
   |none=>rfl
   |some u=>
     rcases hA b (by rw[q];simp)with⟨z,_⟩|⟨p,hp,z⟩
     .subst z;rw[hK (by rw[q];simp)]at e;cases e
     .subst z
      rw[(hT p hp).2.2]at e;cases e)
  have hM:Mod K mg (Hd s₁.heap H):=#[hKb,nsK hns,#[mb,nsK hb,hbb],let⟨mc,h1,h2⟩:=hlim;#[mc,nsK h1,h2]];have e0:FR P w K mg (Hd s₁.heap H) callerA [] s₁ H:=#[rfl,hM,λb o e=>Sd e,Nat.le_of_eq (Np _ _),trivial,λb hb=>absurd (show b∈([]:List Addr)from hb) (by simp),Aj,.of_eq hg]
  have hBl:∀p∈ts,(Hd s₁.heap H).BuiltinsAt mg p.2/\mainGlobals≠p.2:=λp hp=>by
   rintro⟨bm,ob,b1,b2,b3,b4,b5,b6⟩:hbm;rintro⟨og,es,ep,g1,g2,_⟩:hns;refine#[#[bm,ob,b1,b2,λz=>?_,λz=>?_,base_of b3 (noT b3 (λ_ z=>by rw[b6]at z;cases z) λ_ z=>by rw[b6]at z;cases z),b4,b5,b6],λz=>?_]
   .rw[z,g1]at b3;cases b3;rw[b6]at g2;cases g2
   .rw[z,(hT p hp).1]at b3;cases b3;cases b6
   .rw[z,(hT p hp).1]at g1;cases g1;cases g2
  refine codeAny_mono ((F _ hKb (nsK hns) hBl).run callerA [] s₁ H #[[.ref a],[]] [.ref a] [.ref a] (λv _=>v= .bl true) E0 hr e0 (hbind s₁ (.ref a)) (.cons rfl .nil) #[a,ns,rfl,hS,hln,hTb,λ_=>rfl]) λr s' h=>?_
  cases r with
  |error e=>exact False.elim h
  |ok fl =>
    cases fl with
    |next=>exact False.elim h
    |brk=>exact False.elim h
    |cont=>exact False.elim h
    |ret u =>
      rintro⟨v,H',os,bare,un,hok',r',q⟩:h;have q':v= .bl true:=q;subst q';obtain rfl:u=Value.bool true:=r'
      have old:∀b o,s₁.heap.get? b=some o->asItWas s₁.heap s'.heap b o:=λb o e=>by
       cases q:H b with
       |none=>exact .inl (un.keep b o e q (by intro z;exact absurd (show b∈([]:List Addr)from z) (by simp)) (by simp))
       |some u=>
         rcases hA b (by rw[q];simp)with⟨_,ob,xs,z⟩|⟨p,hp,z⟩
         .have z2:=un.IP b ob _ z;rintro⟨e1,_⟩:Aj b _ z;rintro⟨e2,_⟩:hok' b _ z2;rw[e]at e1;cases e1;exact .inl e2
         .subst z;rintro⟨h1,h2,h3⟩:hT p hp;rw[h1]at e;cases e;rintro⟨more,e2⟩:un.Ig p.2 [].toArray (hTb p hp);have e3:s'.heap.get? p.2=some {cls:=.none,data:=.fields ([].toArray++more)}:=hok' p.2 _ e2;rintro⟨oc,vs',_,_,_,_,_,_,_,c1,c2,c3,c4,_⟩:codeHd_of_K KX h2;exact .inr (.inl #[#[p.1,oc,vs',c1,c2,c3,c4],rfl,[].toArray,more,rfl,e3])
      refine#[rfl,#[old,λb o e=>?_],os,bare];rcases old b o e with z|⟨_,_,vs,more,_,z⟩|⟨_,_,⟨o',_,_,z,_⟩,_⟩
      .exact#[_,z]
      .exact#[_,z]
      .exact#[_,z]
 have tabOk:∀(H:Hp) p,p∈ts->Br P w H s₁.heap p.2 (.Jn [].toArray):=λH p hp=>(hT p hp).1
 by_cases hk:K.lookup a=none
 .refine core (λb=>if b∈ts.map (·.2)then some (.Jn [].toArray)else if b=a then some (.CK {cls:=.type "list",data:=.seq vs.toArray} (.lst (ns.map V.int)))else none) ?_ (λb u z=>?_) (λp hp=>iP (mem_map_of_mem hp)) (λb hb=>?_) λ_=>hk
  .refine#[{cls:=.type "list",data:=.seq vs.toArray},?_];refine(iN λz=>?_).trans (iP rfl);rintro⟨p,hp,e⟩:mem_map.mp z;exact haT p hp e
  .by_cases hb:b∈ts.map (·.2)
   .have z':=(iP hb).symm.trans z;cases z';rintro⟨p,hp,e⟩:mem_map.mp hb;rw[<-e];exact tabOk _ p hp
   .by_cases hba:b=a
    .have z':=((iN hb).trans (iP hba)).symm.trans z;cases z';subst hba;exact#[ha,by rw[lM];exact hl,vs,_,rv,ha]
    .have z':=((iN hb).trans (iN hba)).symm.trans z;cases z'
  .by_cases hbt:b∈ts.map (·.2)
   .obtain⟨p,hp,e⟩:=mem_map.mp hbt;exact .inr #[p,hp,e]
   .by_cases hba:b=a
    .refine .inl #[hba,_,_,(iN hbt).trans (iP hba)]
    .exact absurd ((iN hbt).trans (iN hba)) hb
 .obtain⟨o,hko⟩:∃o,K.lookup a=some o:=by
   cases q:K.lookup a with
   |none=>exact absurd q hk
   |some o=>exact#[o,rfl]
  have e:=KX a o hko;rw[ha]at e;cases e;exact absurd (hkl a _ hko) (by simp[JY])
theorem walk{l:PySem.W.OpenLaw}{q:Program}{loose:List Str}{XP:(Str->Option Value)->Heap->Prop}{YP:World->Heap->Prop}{d:DefRec}{K:Params->Frag}(n:Nat)(k:Nat)(ts:List (Addr×Addr))(hn:l.most=some n)(hz:n<=sizeLine)(hdf:d.params.defaults=[])(hr:BU k callerA)
 (hY:∀(w:World) (h:Heap),YP w h->(K w.params).In h)(hT:∀(w:World) (h:Heap),YP w h->∀p∈ts.map (·.2),h.get? p=some (tabObj [].toArray))
 (F:∀(w:World) (mg:Str->Option Value) (fa:Addr) (h:Heap),(K w.params).In h->h.Ns mainGlobals mg->mg d.name=some (.ref fa)->
   (∀a o,(K w.params).lookup a=some o->JY o.cls=false)/\(∀p∈ts,codeHdIn (K w.params) p.1 p.2=true/\(K w.params).lookup p.2=none)/\
   ∃fd:FuncData,(∀(s:Shared) (u:Value),BindsTo s fd #[[u],[]] [("_law_script",u)])/\∀base:Heap,(K w.params).In base->base.Ns mainGlobals mg->(∀p∈ts,base.BuiltinsAt mg p.2/\mainGlobals≠p.2)->GV l.prog w (K w.params) mg base MI k fa fd ["_law_script"] (M0 n ts (K w.params))):
 PySem.W.WalkO q loose XP YP l.row.toRowW d [] (λf vs=>PySem.call f vs):=by
 refine Att.Kl hn hdf λw s₀ s₁ mg mb fa o pm cd doc a vs ns G xYY ho hd hcd hmg hobj hints hlen hg=>?_
 have KX:=hY w _ xYY;rintro⟨hkl,hC,fd,hb,hF⟩:F w mg fa _ KX G.T.g hmg;exact Nc KX G.T.g G.T.b G.T.builtins G.T.nolimit hg G.T.bmain (λp hp=>#[hT w _ xYY p.2 (mem_map_of_mem hp),hC p hp]) hobj hints (Nat.le_trans hlen hz) hlen hr hkl hF hb
end Nv
namespace Nv
open PySem
def dj:Stmt->Str
 |.FunctionDef n ..=>n
 |_=>#[[].toArray]
def Lz:Stmt->Scope
 |.FunctionDef _ _ _ _ _ _ sc ..=>sc
 |_=>#[.module,[],false,false,[]]
def Qj:Stmt->List Stmt
 |.FunctionDef _ _ b ..=>b
 |_=>[]
def GQ:Stmt->List Str
 |.FunctionDef _ a ..=>a.args.map (·.arg)
 |_=>[]
def UH:List Stmt->List Str
 |[]=>[]
 |.Assign [.Attribute (.Name _ _) f _] _ _::r=>f::UH r
 |_::r=>UH r
def namesOf(st:Stmt):List Str:=
 let ps:=GQ st
 ps++((Lz st).names.filter λq=>(q.2 == .local || q.2 == .cell) && !ps.contains q.1).map (·.1)
def Zk:Expr->List (Pos×Arguments×Expr×Scope)
 |.Call _ [_,.Lambda a b sc p] _ _=>[(p,a,b,sc)]
 |_=>[]
def Zj:Stmt->List (Pos×Arguments×Expr×Scope)
 |.Return (some e) _=>Zk e
 |_=>[]
def bS(st:Stmt)(fn mt mu cl:List (Str×Nat))(fl:List Str)(gl:List (Str×C))(lm:List (Pos×Nat))(lt:Nat->Nat->T->Bool):Ct:=#[namesOf st,Lz st,fn,mt,mu,cl,fl,gl,true,lm,lt]
def bM(st:Stmt)(ct:Ct)(m:Bool):Option LI:=(SI ct (Qj st)).map λb=>#[(GQ st).length,ct.N.length,m,b]
end Nv
namespace Lk17
open PySem L2 Nv PyProof.Rows
def bd(i:Nat):Stmt:=PySem.Challenge.pw_kinddeeds_k17_tree_walked.main.body.getD i (.Pass #[0,0,0,0])
noncomputable def cR:List Stmt:=[bd 0,bd 2,bd 3,bd 4,bd 5,bd 6,bd 21,bd 22,bd 23,bd 24,bd 25,bd 26,bd 27,bd 36,bd 37,bd 38,bd 39,bd 40,bd 41,bd 42,bd 43,bd 44,bd 45,bd 46,bd 47,bd 48,bd 49,bd 50,bd 51,bd 52,bd 53,bd 54,bd 55,bd 56,bd 58,bd 59,bd 60,bd 61,bd 62,bd 63,bd 64,bd 65,bd 66,bd 67,bd 68,bd 69,bd 70,bd 71,bd 72,bd 73,bd 77,bd 78,bd 79,bd 80,bd 81,bd 82,bd 83,bd 84,bd 85,bd 86,bd 87,bd 88,bd 89,bd 90,bd 91,bd 92,bd 93,bd 94,bd 95,L2.inClass (bd 75) 0,L2.inClass (bd 75) 1,L2.inClass (bd 75) 2,L2.inClass (bd 75) 3,L2.inClass (bd 75) 4,L2.inClass (bd 75) 5,L2.inClass (bd 75) 6,L2.inClass (bd 75) 7,L2.inClass (bd 75) 8,L2.inClass (bd 75) 9,L2.inClass (bd 75) 10,L2.inClass (bd 75) 11,L2.inClass (bd 75) 12,L2.inClass (bd 75) 13]
def st(i:Nat):Stmt:=cR.getD i (.Pass #[0,0,0,0])
noncomputable def tf:List (Str×Nat):=[(("_wall":Str),0),("serves",1),("tree_by_elders",2),("tree_by_given",3),("tree_by",4),("tree_of",5),("is_name",6),("is_whole",7),("is_open_kind",8),("has_made_form",9),("is_kind",10),("kinds_within",11),("opens_of",12),("is_form_name",13),("is_number",14),("is_few",15),("is_few_of",16),("is_unlike_names",17),("is_one_to_four",18),("has_sort",19),("has_arm_form",20),("has_node_form",21),("node_parts",22),("is_expression",23),("is_kind_below",24),("is_few_kinds",25),("is_form",26),("is_kind_row",27),("is_deed_row",28),("is_need",29)]++[(("is_body_row":Str),30),("is_row",31),("checked",32),("told_by",33),("told_of_itself",34),("first_told_twice",35),("row_kinds",36),("made_kinds",37),("kinds_named",38),("classes_named",39),("names_no_deed",40),("names_nothing",41),("is_miscounted",42),("is_in_ring",43),("leaves_kind_out",44),("lacks_body",45),("follows",46),("lacks_elder_house",47),("first_row",48),("look_at",49),("_law_mixed",50),("_law_names",51),("_law_form_names",52),("_law_kind",53),("_law_expression",54),("_law_kind_rows",55),("_law_class_rows",56),("_law_deed_rows",57),("_law_needs",58),("_law_house_rows",59)]++[(("_law_body_rows":Str),60),("_law_turned",61),("_law_world",62),("_law_closed",63),("_law_kind_names",64),("_law_house",65),("_law_walked",66),("_law_lacks",67),("law",68)]
def tm:List (Str×Nat):=[(("rows":Str),71),("many_of",72),("forms_of",73),("kind_of_form",74),("elders_of",75),("far_elders",76),("deed_of",77),("deeds_of",78),("house_of",79),("house_at",80),("needs_of",81),("body_of",82)]
def tu:List (Str×Nat):=[(("keep_told":Str),70)]
def tc:List (Str×Nat):=[(("Lore":Str),69)]
def tl:List Str:=["program","tellers","numbers"]
def SA:List (Nv.P×Nv.P):=[(.str "kind",.int 4),(.str "class",.int 3),(.str "deed",.int 5),(.str "once",.int 4),(.str "house",.int 4),(.str "does",.int 6),(.str "def",.int 4),(.str "ask",.int 2)]
def cI:Nv.P:=.tup [.tup [.str "kind",.str "whole",.int 0,.tup []],.tup [.str "kind",.str "truth",.int 0,.tup [.tup [.str "No",.tup []],.tup [.str "Yes",.tup []]]]]
def cH:Nv.P:=.tup [.str "plus",.str "minus",.str "under"]
noncomputable def tg:List (Str×Nv.C):=[(("MOST_LETTERS":Str),.p (.int 8)),("MOST_PARTS",.p (.int 3)),("MOST_SIZE",.p (.int 24)),("MOST_ROWS",.p (.int 40)),("MOST_NODES",.p (.int 40)),("MOST_ABOVE",.p (.int 11)),("MOST_FORMS",.p (.int 4)),("LENGTHS",.Bl false SA),("OWN_KINDS",.p cI),("OWN_FUNCTIONS",.p cH)]
def XC:Nv.T->Nat->Bool
 |.var i,j=>i == j
 |_,_=>false
def lt(l m:Nat):Nv.T->Bool
 |.call f xs=>l == 83 && m == 2 && f == 24 && xs.length == 2 && (xs[0]?).any (XC · 0) && (xs[1]?).any (XC · 1)
 |_=>false
def c0:Ct:=#[[],#[.module,[],false,false,[]],tf,tm,tu,tc,tl,tg,false,[],lt]
def lm(i:Nat):List (Pos×Nat):=((Qj (st i)).flatMap Zj).map λq=>(q.1,83)
def Zl:LI:=#[2,2,false,[.ret (.call 24 [.var 0,.var 1])]]
def HA(i:Nat):Bool:=i == 69 || i == 70
def bR(i:Nat):Ct:=bS (st i) tf tm tu tc tl tg (lm i) lt
def fnAt(i:Nat):LI:=(bM (st i) (bR i) (HA i)).getD #[0,0,false,[]]
def fns:List LI:=(List.range 83).map fnAt++[Zl]
theorem PL{t:Nv.T}{j:Nat}(h:XC t j=true):t= .var j:=by
 cases t with
 |var i=>rw[show i=j from by simpa[XC]using h]
 |_=>cases h
theorem Zf(l m:Nat)(t:Nv.T)(h:lt l m t=true):fns[l]? =some #[m,m,false,[.ret t]]:=by
 cases t with
 |call f xs=>
   simp only[lt,bA,beq_iff_eq]at h;rintro⟨⟨⟨⟨⟨rfl,rfl⟩,rfl⟩,hl⟩,h1⟩,h2⟩:h;rcases xs with _|⟨a,_|⟨b,_|⟨_,_⟩⟩⟩
   .cases hl
   .cases hl
   .have e1:XC a 0=true:=h1;have e2:XC b 1=true:=h2;cases PL e1;cases PL e2;rfl
   .simp at hl
 |_=>cases h
structure Tp(K:Frag)(x:Str)(i:Nat)(f:Addr)(d:FuncData):Prop where
 a:nsIn K mainGlobals x=some (some (.ref f))
 l:TQ K x x (st i) f d
structure Tm(K:Frag)(C:Addr)(x qual:Str)(i:Nat)(f:Addr)(d:FuncData):Prop where
 m:findIn K (.ref C) x=some (some (.ref f))/\isFn K (.ref f)=true
 l:TQ K x qual (st i) f d
variable{h:Heap}{mg:Str->Option Value}
theorem Yh{K:Frag}{i:Nat}{d:FuncData}(X:K.In h)(G:h.Ns mainGlobals mg)(s:Tp K x i f d)(hl:i < 83)(hm:Hb fns i=false):mg x=some (.ref f)/\i < 83/\Hb fns i=false:=#[mg_of X G s.a,hl,hm]
variable{qual:Str}
theorem TX{K:Frag}{C:Addr}{i:Nat}{d:FuncData}{b:Bool}(s:Tm K C x qual i f d)(hf:x∉tl)(hl:i < 83)(hm:Hb fns i=b):x∉tl/\Meth K C x f/\i < 83/\Hb fns i=b:=#[hf,#[s.m.1,s.m.2,s.l.kp],hl,hm]
noncomputable def tupK(K:Frag):Nat->Nv.P->Value->Bool
 |n+1,.tup ps,.ref a=>(K.lookup a).any λo=>(match o.cls with| .type s=>s == "tuple"|_=>false) && (match o.data with| .seq its _=>its.size == ps.length && decide (ps.length<=1000) && (ps.zip its.toList).all λq=>tupK K n q.1 q.2|_=>false)
 |_,.str x,.str y _=>x == y
 |_,.int i,.int j _=>i == j
 |_,_,_=>false
theorem Ic{K:Frag}:∀(n:Nat) {p:Nv.P} {u:Value},tupK K n p u=true->∃v,RelV v u/\∀(W:Wd) (H:Hp),W.K=K->A5 W H p v
 | 0,p,u,h=>by
   cases p with
   |int i=>
     cases u with
     |int j t=>cases (show i=j from by simpa[tupK]using h);exact#[.int i,#[t,rfl],λW H _=>Aa.mpr rfl]
     |_=>cases h
   |str i=>
     cases u with
     |str j t=>cases (show i=j from by simpa[tupK]using h);exact#[.str i,#[t,rfl],λW H _=>AJ.mpr rfl]
     |_=>cases h
   |_=>cases h
 | n + 1, p, u,h=>by
   cases p with
   |int i=>
     cases u with
     |int j t=>cases (show i=j from by simpa[tupK]using h);exact#[.int i,#[t,rfl],λW H _=>Aa.mpr rfl]
     |_=>cases h
   |str i=>
     cases u with
     |str j t=>cases (show i=j from by simpa[tupK]using h);exact#[.str i,#[t,rfl],λW H _=>AJ.mpr rfl]
     |_=>cases h
   |tup ps=>
     cases u with
     |ref a =>
       rintro⟨o,h1,h2⟩:any_some (show((K.lookup a).any λo=>(match o.cls with| .type s=>s == "tuple"|_=>false) && (match o.data with| .seq its _=>its.size == ps.length && decide (ps.length<=1000) && (ps.zip its.toList).all λq=>tupK K n q.1 q.2|_=>false))=true from h);rw[bA]at h2;rintro⟨h2,h3⟩:h2;rintro⟨oc,od,oda,os⟩:o;cases oc with
       |type s=>
         cases (show s="tuple" from by simpa using h2);cases oda with
         |seq its m=>
           rw[bA,bA]at h3;rintro⟨⟨h3,h4⟩,h5⟩:h3;have hl:its.toList.length=ps.length:=by simpa using h3
           have key:∀(ps:List Nv.P) (us:List Value),us.length=ps.length->(ps.zip us).all (λq=>tupK K n q.1 q.2)=true->∃vs,Vals vs us/\∀(W:Wd) (H:Hp),W.K=K->Cw W H ps vs:=by
            intro ps
            induction ps with
            |nil=>intro us hl _;cases us with|nil=>exact#[[],.nil,λ_ _ _=>.nil]|cons _ _=>cases hl
            |cons p ps ih=>
              intro us hl ha;cases us with
              |nil=>cases hl
              |cons u us=>
                rw[zip_cons_cons,all_cons,bA]at ha;rintro⟨v,r1,r2⟩:Ic n ha.1;rintro⟨vs,r3,r4⟩:ih us (by simpa using hl) ha.2;exact#[v::vs,.cons r1 r3,λW H e=>.cons (r2 W H e) (r4 W H e)]
           rintro⟨vs,r1,r2⟩:key ps its.toList hl h5;have h4:=of_decide_eq_true h4;have hb:=Bw;have hs:big=100000:=rfl;refine#[.ref a,rfl,λW H e=>A9.mpr #[a,vs,rfl,.inr #[_,its,m,by rw[e];exact h1,rfl,rfl,?_,r1],r2 W H e]];rw[<-Array.length_toList]
           lia
         |_=>cases h3
       |_=>cases h2
     |_=>cases h
   |_=>cases h
abbrev Pq(w:World)(k0 v0 k1 v1 k2 v2 k3 v3 k4 v4 k5 v5 k6 v6 k7 v7:Tok):List DictEntry:=[#[hashStr w "kind",.str "kind" k0,.int 4 v0],#[hashStr w "class",.str "class" k1,.int 3 v1],#[hashStr w "deed",.str "deed" k2,.int 5 v2],#[hashStr w "once",.str "once" k3,.int 4 v3],#[hashStr w "house",.str "house" k4,.int 4 v4],#[hashStr w "does",.str "does" k5,.int 6 v5],#[hashStr w "def",.str "def" k6,.int 4 v6],#[hashStr w "ask",.str "ask" k7,.int 2 v7]]
variable{W:Wd}
theorem Sz{H:Hp}{a:Addr}{k0 v0 k1 v1 k2 v2 k3 v3 k4 v4 k5 v5 k6 v6 k7 v7:Tok}(sm:(a == sysModules)=false):DD W H a SA (Pq W.w k0 v0 k1 v1 k2 v2 k3 v3 k4 v4 k5 v5 k6 v6 k7 v7):=by
 refine#[?_,by decide +kernel,by decide +kernel,by decide,sm];have one:∀(k:Str) (v:Int) (t u:Tok),FC W H (.str k,.int v) #[hashStr W.w k,.str k t,.int v u]:=λk v t u=>#[rfl,#[.str k,#[t,rfl],AJ.mpr rfl],.int v,#[u,rfl],Aa.mpr rfl]
 exact(.cons (one _ _ _ _) (.cons (one _ _ _ _) (.cons (one _ _ _ _) (.cons (one _ _ _ _) (.cons (one _ _ _ _) (.cons (one _ _ _ _) (.cons (one _ _ _ _) (.cons (one _ _ _ _) .nil))))))))
theorem X8{K:Frag}{i:Nat}{fd:FuncData}(F:TQ K x qual (st i) f fd)(S:EG (Nv.namesOf (st i)) (GQ (st i)) (Bp (st i)))(hs:(bM (st i) (bR i) (HA i)).isSome=true)
 (h:∀(kV doc pm:Value) (an:Option Addr) (cdv ct:Value) (us:List Value),us.length=(GQ (st i)).length->bindArgs (fnOf x qual (J0 (st i)) (DM (st i)) (Bp (st i)) .none kV doc pm an cdv ct) #[us,[]]=pure ((GQ (st i)).zip us))(e1:Qj (st i)=DM (st i))(e2:Lz (st i)=Bp (st i))
 (hl:∀lp l,(lm i).lookup lp=some l->∃c P,fd.code= .ref c/\codeHdIn K c P=true/\(P,lp,(qual++".<locals>.")++"<lambda>")∈W.tabs):QN K W c0 f (fnAt i) fd (GQ (st i)):=by
 rintro⟨fi,hfi⟩:Option.isSome_iff_exists.mp hs;have e:fnAt i=fi:=by unfold fnAt;rw[hfi];rfl
 rw[e];unfold bM at hfi;rintro⟨b,hb',rfl⟩:oM hfi;exact#[x,qual,st i,bR i,F,S,by rw[<-e1];exact hb',rfl,rfl,e2,rfl,#[rfl,rfl,rfl,rfl,rfl,rfl,rfl],F.binds h,hl]
theorem all_mk{l:PySem.W.OpenLaw}{w:World}{K:Frag}{fa aC aL ccL cpL:Addr}{d0 d1 d2 d3 d4 d5 d6 d7 d8 d9 d10 d11 d12 d13 d14 d15 d16 d17 d18 d19 d20 d21 d22 d23 d24 d25 d26 d27 d28 d29 d30 d31 d32 d33 d34 d35 d36 d37 d38 d39 d40 d41 d42 d43 d44 d45 d46 d47 d48 d49 d50 d51 d52 d53 d54 d55 d56 d57 d58 d59 d60 d61 d62 d63 d64 d65 d66 d67 d68 d69 d70 d71 d72 d73 d74 d75 d76 d77 d78 d79 d80 d81 d82:FuncData}{t0 t1 t2 t3 t4 t5 t6:Tok}{kt0 vt0 kt1 vt1 kt2 vt2 kt3 vt3 kt4 vt4 kt5 vt5 kt6 vt6 kt7 vt7:Tok}{ep:Nat}{uT0 uT1:Value}
 (hlaw:∀ns:List Int,ns.length<=63->Be fns As 98 68 [.lst false (ns.map .int)]= .ok (.p (.bl true)))(X:K.In h)(G:h.Ns mainGlobals mg)(hfa:mg "law"=some (.ref fa))
 (kl:K.all (λq=>!JY q.2.cls)=true)
 (s0:Tp K "_wall" 0 f0 d0)
 (s1:Tp K "serves" 1 f1 d1)
 (s2:Tp K "tree_by_elders" 2 f2 d2)
 (s3:Tp K "tree_by_given" 3 f3 d3)
 (s4:Tp K "tree_by" 4 f4 d4)
 (s5:Tp K "tree_of" 5 f5 d5)
 (s6:Tp K "is_name" 6 f6 d6)
 (s7:Tp K "is_whole" 7 f7 d7)
 (s8:Tp K "is_open_kind" 8 f8 d8)
 (s9:Tp K "has_made_form" 9 f9 d9)
 (s10:Tp K "is_kind" 10 f10 d10)
 (s11:Tp K "kinds_within" 11 f11 d11)
 (s12:Tp K "opens_of" 12 f12 d12)
 (s13:Tp K "is_form_name" 13 f13 d13)
 (s14:Tp K "is_number" 14 f14 d14)
 (s15:Tp K "is_few" 15 f15 d15)
 (s16:Tp K "is_few_of" 16 f16 d16)
 (s17:Tp K "is_unlike_names" 17 f17 d17)
 (s18:Tp K "is_one_to_four" 18 f18 d18)
 (s19:Tp K "has_sort" 19 f19 d19)
 (s20:Tp K "has_arm_form" 20 f20 d20)
 (s21:Tp K "has_node_form" 21 f21 d21)
 (s22:Tp K "node_parts" 22 f22 d22)
 (s23:Tp K "is_expression" 23 f23 d23)
 (s24:Tp K "is_kind_below" 24 f24 d24)
 (s25:Tp K "is_few_kinds" 25 f25 d25)
 (s26:Tp K "is_form" 26 f26 d26)
 (s27:Tp K "is_kind_row" 27 f27 d27)
 (s28:Tp K "is_deed_row" 28 f28 d28)
 (s29:Tp K "is_need" 29 f29 d29)
 (s30:Tp K "is_body_row" 30 f30 d30)
 (s31:Tp K "is_row" 31 f31 d31)
 (s32:Tp K "checked" 32 f32 d32)
 (s33:Tp K "told_by" 33 f33 d33)
 (s34:Tp K "told_of_itself" 34 f34 d34)
 (s35:Tp K "first_told_twice" 35 f35 d35)
 (s36:Tp K "row_kinds" 36 f36 d36)
 (s37:Tp K "made_kinds" 37 f37 d37)
 (s38:Tp K "kinds_named" 38 f38 d38)
 (s39:Tp K "classes_named" 39 f39 d39)
 (s40:Tp K "names_no_deed" 40 f40 d40)
 (s41:Tp K "names_nothing" 41 f41 d41)
 (s42:Tp K "is_miscounted" 42 f42 d42)
 (s43:Tp K "is_in_ring" 43 f43 d43)
 (s44:Tp K "leaves_kind_out" 44 f44 d44)
 (s45:Tp K "lacks_body" 45 f45 d45)
 (s46:Tp K "follows" 46 f46 d46)
 (s47:Tp K "lacks_elder_house" 47 f47 d47)
 (s48:Tp K "first_row" 48 f48 d48)
 (s49:Tp K "look_at" 49 f49 d49)
 (s50:Tp K "_law_mixed" 50 f50 d50)
 (s51:Tp K "_law_names" 51 f51 d51)
 (s52:Tp K "_law_form_names" 52 f52 d52)
 (s53:Tp K "_law_kind" 53 f53 d53)
 (s54:Tp K "_law_expression" 54 f54 d54)
 (s55:Tp K "_law_kind_rows" 55 f55 d55)
 (s56:Tp K "_law_class_rows" 56 f56 d56)
 (s57:Tp K "_law_deed_rows" 57 f57 d57)
 (s58:Tp K "_law_needs" 58 f58 d58)
 (s59:Tp K "_law_house_rows" 59 f59 d59)
 (s60:Tp K "_law_body_rows" 60 f60 d60)
 (s61:Tp K "_law_turned" 61 f61 d61)
 (s62:Tp K "_law_world" 62 f62 d62)
 (s63:Tp K "_law_closed" 63 f63 d63)
 (s64:Tp K "_law_kind_names" 64 f64 d64)
 (s65:Tp K "_law_house" 65 f65 d65)
 (s66:Tp K "_law_walked" 66 f66 d66)
 (s67:Tp K "_law_lacks" 67 f67 d67)
 (s68:Tp K "law" 68 f68 d68)
 (hC:nsIn K mainGlobals "Lore"=some (some (.ref aC)))
 (s69:Tm K aC "__init__" "Lore.__init__" 69 f69 d69)
 (s70:Tm K aC "keep_told" "Lore.keep_told" 70 f70 d70)
 (s71:Tm K aC "rows" "Lore.rows" 71 f71 d71)
 (s72:Tm K aC "many_of" "Lore.many_of" 72 f72 d72)
 (s73:Tm K aC "forms_of" "Lore.forms_of" 73 f73 d73)
 (s74:Tm K aC "kind_of_form" "Lore.kind_of_form" 74 f74 d74)
 (s75:Tm K aC "elders_of" "Lore.elders_of" 75 f75 d75)
 (s76:Tm K aC "far_elders" "Lore.far_elders" 76 f76 d76)
 (s77:Tm K aC "deed_of" "Lore.deed_of" 77 f77 d77)
 (s78:Tm K aC "deeds_of" "Lore.deeds_of" 78 f78 d78)
 (s79:Tm K aC "house_of" "Lore.house_of" 79 f79 d79)
 (s80:Tm K aC "house_at" "Lore.house_at" 80 f80 d80)
 (s81:Tm K aC "needs_of" "Lore.needs_of" 81 f81 d81)
 (s82:Tm K aC "body_of" "Lore.body_of" 82 f82 d82)
 (kL:d25.code= .ref ccL)(hL:codeHdIn K ccL cpL=true)(uL:K.lookup cpL=none)
 (y1:plainGet K aC Str.empty=true)(y2:hasDictIn K aC=true)(y3:plainOver K aC=true)(y4:findIn K (.ref aC) "__setattr__"=some (some (.builtin "object.__setattr__")))(y5:makesIn K aC=true)(y6:keepIn K (.ref aC)=true)
 (y7:Each (λx=>findIn K (.ref aC) x=some none) tl)
 (z:Each (λx=>nsIn K mainGlobals x=some none) J6)
 (g0:nsIn K mainGlobals "MOST_LETTERS"=some (some (.int 8 t0)))
 (g1:nsIn K mainGlobals "MOST_PARTS"=some (some (.int 3 t1)))
 (g2:nsIn K mainGlobals "MOST_SIZE"=some (some (.int 24 t2)))
 (g3:nsIn K mainGlobals "MOST_ROWS"=some (some (.int 40 t3)))
 (g4:nsIn K mainGlobals "MOST_NODES"=some (some (.int 40 t4)))
 (g5:nsIn K mainGlobals "MOST_ABOVE"=some (some (.int 11 t5)))
 (g6:nsIn K mainGlobals "MOST_FORMS"=some (some (.int 4 t6)))
 (gL:nsIn K mainGlobals "LENGTHS"=some (some (.ref aL)))(zL:List.lookup aL K=some #[.type "dict",none,.dict (Pq w kt0 vt0 kt1 vt1 kt2 vt2 kt3 vt3 kt4 vt4 kt5 vt5 kt6 vt6 kt7 vt7).toArray ep,[].toArray])(sL:(aL == sysModules)=false)
 (gT0:nsIn K mainGlobals "OWN_KINDS"=some (some uT0))(zT0:tupK K 9 cI uT0=true)
 (gT1:nsIn K mainGlobals "OWN_FUNCTIONS"=some (some uT1))(zT1:tupK K 9 cH uT1=true)
 :(∀a o,K.lookup a=some o->JY o.cls=false)/\(∀p∈([(ccL,cpL)]:List (Addr×Addr)),codeHdIn K p.1 p.2=true/\K.lookup p.2=none)/\∃fd:FuncData,(∀(s:Shared) (v:Value),BindsTo s fd #[[v],[]] [("_law_script",v)])/\∀base:Heap,K.In base->base.Ns mainGlobals mg->(∀p∈([(ccL,cpL)]:List (Addr×Addr)),base.BuiltinsAt mg p.2/\mainGlobals≠p.2)->GV l.prog w K mg base Nv.MI 200 fa fd ["_law_script"] (M0 63 [(ccL,cpL)] K):=by
 refine#[λa o e=>by simpa using all_eq_true.mp kl (a,o) (Nv.Fn e),λp hp=>by cases mE hp;exact#[hL,uL],?_]
 have e:f68=fa:=by
  have e:=(mg_of X G s68.a).symm.trans hfa;injection e with e
  injection e
 subst e
 let fl:List Addr:=[f0,f1,f2,f3,f4,f5,f6,f7,f8,f9,f10,f11,f12,f13,f14,f15,f16,f17,f18,f19,f20,f21,f22,f23,f24,f25,f26,f27,f28,f29,f30,f31,f32,f33,f34,f35,f36,f37,f38,f39,f40,f41,f42,f43,f44,f45,f46,f47,f48,f49,f50,f51,f52,f53,f54,f55,f56,f57,f58,f59,f60,f61,f62,f63,f64,f65,f66,f67,f68,f69,f70,f71,f72,f73,f74,f75,f76,f77,f78,f79,f80,f81,f82]
 let W₀:Wd:=#[K,w,aC,tl,λm c a=>m < 83/\Hb fns m=false/\c=[]/\a=fl.getD m 0,[(cpL,((lm 25).map (·.1)).headD #[0,0,0,0],(Str.ofString "is_few_kinds"++(".<locals>.":Str))++("<lambda>":Str))],[]]
 have lmL:lm 25=[(((lm 25).map (·.1)).headD #[0,0,0,0],83)]:=by kernel_rfl
 have hlL:∀lp l,(lm 25).lookup lp=some l->∃c P,d25.code= .ref c/\codeHdIn K c P=true/\(P,lp,(Str.ofString "is_few_kinds"++(".<locals>.":Str))++("<lambda>":Str))∈W₀.tabs:=by
  intro lp l hq;rw[lmL,lookup_cons]at hq;cases hb:lp == ((lm 25).map (·.1)).headD #[0,0,0,0]with
  |true=>rw[eq_of_beq hb];exact#[ccL,cpL,kL,hL,by simp[W₀]]
  |false=>rw[hb]at hq;cases hq
 have D0:∀f,∃fd:FuncData,∀fi,f < 83->fns[f]? =some fi->QN K W₀ c0 (fl.getD f 0) fi fd ((cR.map GQ).getD f []):=by
  intro f;rcases f with _|_|_|_|_|_|_|_|_|_|_|_|_|_|_|_|_|_|_|_|_|_|_|_|_|_|_|_|_|_|_|_|_|_|_|_|_|_|_|_|_|_|_|_|_|_|_|_|_|_|_|_|_|_|_|_|_|_|_|_|_|_|_|_|_|_|_|_|_|_|_|_|_|_|_|_|_|_|_|_|_|_|_|f
  all_goals first
   |(exact#[d0,λfi h=>absurd h (by lia)])
   | (apply Exists.intro
      intro fi hlt h;cases h;refine X8 (W:=W₀) (by first|exact Tp.l (by assumption)|exact Tm.l (by assumption)) #[by kernel_rfl,by kernel_rfl,by kernel_rfl,by decide +kernel,by kernel_rfl,by decide +kernel,by decide +kernel] (by kernel_rfl) ?_ rfl rfl ?_
      .intro _ _ _ _ _ _ us hl;rcases us with _|⟨_,_|⟨_,_|⟨_,_|⟨_,_|⟨_,_|_⟩⟩⟩⟩⟩<;>first|rfl|cases hl
      .first
       |exact hlL
       |(intro lp q hq;exact absurd (show(none:Option Nat)=some q from hq) nofun))
 rintro⟨FD,D⟩:Classical.skolem.mp D0
 have eL:FD 68=d68:=by
  rintro⟨x,qual,st,ct,F,_⟩:(D 68 _ (by lia) rfl).ex;rintro⟨_,_,_,_,_,_,_,_,_,_,lk,_⟩:F.ex;rintro⟨_,_,_,_,_,_,_,_,_,_,lk2,_⟩:s68.l.ex;have lk:=lk.symm.trans lk2;injection lk with lk
  injection lk with _ _ lk _
  injection lk with lk
 have Gb:cu K mg W₀ 83 (λf=>fl.getD f 0) fns c0:=by
  refine#[rfl,λ_ _ _=>Iff.rfl,λx c h=>?g1,λx hx _ _ _=>PySem.W.mg_none_of X G (z.mem x hx),λx f h=>?g3,#[y1,y2,y3,y4],#[rfl,by decide +kernel,by decide,λf hf=>y7.mem f hf],λm f h=>?g5,λm f h=>?g6,λx f h=>?g7]
  case g1=>refine Each.look (l:=tg) (R:=λq:Str×Nv.C=>∃u v,mg q.1=some u/\RelV v u/\∀W':Wd,TL W₀ W'->∀H own bor,AF W' H own bor q.2.bor v) ?_ h;unfold tg;exact(.cons #[_,.int 8,mg_of X G g0,#[_,rfl],λW' _ H _ _=>(show A5 W' H (.int 8) _ from Aa.mpr rfl)] (.cons #[_,.int 3,mg_of X G g1,#[_,rfl],λW' _ H _ _=>(show A5 W' H (.int 3) _ from Aa.mpr rfl)] (.cons #[_,.int 24,mg_of X G g2,#[_,rfl],λW' _ H _ _=>(show A5 W' H (.int 24) _ from Aa.mpr rfl)] (.cons #[_,.int 40,mg_of X G g3,#[_,rfl],λW' _ H _ _=>(show A5 W' H (.int 40) _ from Aa.mpr rfl)] (.cons #[_,.int 40,mg_of X G g4,#[_,rfl],λW' _ H _ _=>(show A5 W' H (.int 40) _ from Aa.mpr rfl)] (.cons #[_,.int 11,mg_of X G g5,#[_,rfl],λW' _ H _ _=>(show A5 W' H (.int 11) _ from Aa.mpr rfl)] (.cons #[_,.int 4,mg_of X G g6,#[_,rfl],λW' _ H _ _=>(show A5 W' H (.int 4) _ from Aa.mpr rfl)] (.cons #[_,.ref aL,mg_of X G gL,rfl,λW' hW H _ _=>#[aL,Pq W'.w kt0 vt0 kt1 vt1 kt2 vt2 kt3 vt3 kt4 vt4 kt5 vt5 kt6 vt6 kt7 vt7,rfl,.inr #[_,by rw[<-hW.K];exact zL,#[rfl,rfl,rfl],ep,by rw[<-hW.w]],Sz sL]] (.cons (let⟨v,r1,r2⟩:=Ic 9 zT0;#[_,v,mg_of X G gT0,r1,λW' hW H _ _=>r2 W' H hW.K.symm]) (.cons (let⟨v,r1,r2⟩:=Ic 9 zT1;#[_,v,mg_of X G gT1,r1,λW' hW H _ _=>r2 W' H hW.K.symm]) .nil))))))))))
  case g3=>refine Each.look (l:=tf) (R:=λq:Str×Nat=>mg q.1=some (.ref (fl.getD q.2 0))/\q.2 < 83/\Hb fns q.2=false) ?_ h;unfold tf;show Each _ (_::_);repeat first|exact .nil|refine .cons (Yh X G (by assumption) (by decide) (by kernel_rfl)) ?_
  case g5=>refine Each.look (l:=tm) (R:=λq:Str×Nat=>q.1∉tl/\Meth K aC q.1 (fl.getD q.2 0)/\q.2 < 83/\Hb fns q.2=false) ?_ h;unfold tm;repeat first|exact .nil|refine .cons (TX (by assumption) #[] (by decide) (by kernel_rfl)) ?_
  case g6=>refine Each.look (l:=tu) (R:=λq:Str×Nat=>q.1∉tl/\Meth K aC q.1 (fl.getD q.2 0)/\q.2 < 83/\Hb fns q.2=true) ?_ h;unfold tu;exact .cons (TX s70 #[] (by decide) (by kernel_rfl)) .nil
  case g7=>refine Each.look (l:=tc) (R:=λq:Str×Nat=>mg q.1=some (.ref aC)/\Mk K aC (fl.getD q.2 0)/\q.2 < 83/\Hb fns q.2=true) ?_ h;unfold tc;exact .cons #[mg_of X G hC,#[y5,s69.m.1,s69.m.2,y6],by decide,by kernel_rfl] .nil
 refine#[FD 68,λs v=>?b,λbase hb hn hB=>?F]
 case b=>
  rintro⟨_,_,_,_,_,_,_,_,_,ed,_⟩:s68.l.ex;rw[eL,ed];exact .of_eq rfl
 case F=>
  have good:Good K mg c0 W₀ W₀ base:=#[#[rfl,rfl,rfl,rfl,rfl,λ_ z=>z,λ_ _ _ z=>z],hb,λ_ _ _ z=>.inl z,λq hq=>by cases mE hq;exact hB (ccL,cpL) mS];exact(X3 (P:=l.prog) rfl Gb (by decide) (by simp[W₀]) Zf D (k:=97) good (f:=68) (by decide) (by kernel_rfl)).imp λvs H Q E z=>SF (W:=W₀) (ts:=[(ccL,cpL)]) (λq hq=>by cases mE hq;exact#[_,mS,rfl]) rfl hlaw vs H Q E z
end Lk17
abbrev _root_.sP(x:Nv.P):Option Nv.C:=some (.p x)
abbrev _root_.sL(o:Bool)(x:List Nv.P):Option Nv.C:=some (.lst o x)
abbrev _root_.sI(x:Int):Option Nv.C:=some (.p (.int x))
abbrev _root_.aS(i:Nat)(t:Nv.T):Nv.S:=.asg (.nm i) t
abbrev _root_.fR(i:Nat)(t:Nv.T)(b:List Nv.S):Nv.S:=.Di (.nm i) Nv.DP t b
abbrev _root_.fW(i:Nat)(t:Nv.T)(b:List Nv.S):Nv.S:=.Di (.nm i) Nv.AM t b
abbrev _root_.mO(a b:Nv.T):Nv.T:=.A1 (Nv.Aw Nv.Dt) a b
abbrev _root_.dO(a b:Nv.T):Nv.T:=.A1 (Nv.Aw Nv.Ez) a b
abbrev _root_.aP(i:Nat)(t:Nv.T):Nv.S:=.Ce i true (Nv.EJ Nv.LF) [t]
abbrev _root_.tN:Nv.T:=.cst (.p .AG)
abbrev _root_.rf:Nv.S:=.ret (.cst (.p (.bl false)))
abbrev _root_.rF:List Nv.S:=[rf]
abbrev _root_.rT:List Nv.S:=[.ret (.cst (.p (.bl true)))]
abbrev _root_.rN:Nv.S:=.ret tN
theorem _root_.tI{x:Option Nv.C}{a b:Int}(h:x=some (.p (.int a)))(e:a=b):x=some (.p (.int b)):=e▸h
abbrev _root_.sS(x:PySem.Str):Option Nv.C:=some (.p (.str x))
local macro_rules
|`({$x:num})=>`(Nv.T.var $x)
|`({$x:num,0})=>`(Nv.T.cst (.p (.int $x)))
|`({$x:num,$y:num,0})=>`(Nv.T.A1 Nv.Ae (.var $x) (.cst (.p (.int $y))))
|`({$x:str})=>`(Nv.T.cst (.p (.str $x)))
|`(#[])=>`(by decide)
|`(#[$x:num])=>do let f:=Lean.mkIdent `Nv.AA;let i:=Lean.mkIdent `i;`($f ($i:ident:=$x) rfl rfl)
|`(#[$x,$y,$xs,*])=>`(⟨$x,$y,$xs,*⟩)
|`(#[$h])=>do let f:=Lean.mkIdent `Nv.d2;`($f rfl rfl $h)
|`($k<<<$b>>>$r)=>do let f:=Lean.mkIdent `Nv.cN;`(Nv.execs ($f $k) Nv.As $b $r)
|`($k|||$t&&&$r)=>do let f:=Lean.mkIdent `Nv.cN;`((Nv.den ($f $k) $t).v $r)
namespace Lk17
open PySem Nv
def B1:List S:=[(.ret (.or (.A1 Bd {1} {2}) (.A1 Nn {2} (.Bq 76 {0} [{1}]))))]
def B2:List S:=[(.QZ (.A1 Em {2} {3}) [(aS 2 (.A1 Ae (.comp (.nm 1) AM (.Bq 75 {0} [{2}]) [(.call 1 [{2},{1},{3}])] {1} [none,none,some 0,some 3]) {0,0})),(aS 1 (.tup [{"elder"},{2},{1}]))]),(.CG 1)]
def B3:List S:=[(.Di (.tup [4,5]) IY {1} [(.ifs (.and (.A1 E5 {5} tN) (.and (.A1 Bd {5,1,0} {3}) (.call 1 [{0},{5,0,0},{2}]))) [(.ret (.call 2 [{0},(.tup [{"given"},{4}]),{5,0,0},{2}]))] [])]),rN]
noncomputable def B4:List S:=[(.ifs (.Ak (FI .int) {3}) [(.ret (.call 3 [{0},{1},{2},{3}]))] []),(aS 4 (.Bq 79 {0} [{2},{3,0,0}])),(.ifs (.A1 Ft {4} tN) [rN] []),(aS 5 (.lst [])),(.Di (.tup [6,7]) Jf (.A1 Gq (.Bq 81 {0} [{4}]) (.A1 M1 {3} {1,0})) [(aS 8 (.ite (.A1 Ft {6} tN) tN (.call 4 [{0},{1},{6},{7}]))),(.ifs (.and (.A1 E5 {6} tN) (.A1 Ft {8} tN)) [rN] []),(aP 5 {8})]),(.ret (.tup [{"house"},{4},(.Ak Jm {5})]))]
def B5:List S:=[(.ret (.call 4 [{0},(.lst []),{1},{2}]))]
def B6:List S:=[(.ifs (.not (.Ak (FI .str) {0})) rF []),(.ifs (.or (.A1 L4 (.Ak AD {0}) {1,0}) (.A1 Nr (.Ak AD {0}) {8,0})) rF []),(.ret (.Ak Fc (.comp (.nm 1) AM {0} [] (.Tn L8 L8 {"a"} {1} {"z"}) [none,none])))]
def B7:List S:=[(.ret (.and (.Ak (FI .int) {0}) (.not (.Ak (FI .bool) {0}))))]
def B8:List S:=[(.ret (.and (.call 7 [{0}]) (.A1 Zu {0} {0,0})))]
def B9:List S:=[(.ifs (.not (.Ak (FI .tuple) {0})) rF []),(.ifs (.or (.A1 L4 (.Ak AD {0}) {1,0}) (.A1 Nr (.Ak AD {0}) (.A1 Ad {1,0} {3,0}))) rF []),(.ret (.call 6 [{0,0,0}]))]
noncomputable def gY:List S:=[(aS 1 (.lst [{0}])),(aS 2 {0,0}),(.QZ {1} [(aS 2 (.A1 Ad {2} {1,0})),(.ifs (.A1 Nr {2} {24,0}) rF []),(.pop (some 3) 1),(.ifs (.call 9 [{3}]) [(.Ce 1 true (EJ IW) [(.A1 M1 {3} {1,0})])] [(.ifs (.not (.call 8 [{3}])) rF [])])]),(.ret (.cst (.p (.bl true))))]
def gX:List S:=[(aS 1 (.lst [])),(aS 2 (.lst [{0}])),(.QZ {2} [(.pop (some 3) 2),(aP 1 {3}),(.ifs (.Ak (FI .tuple) {3}) [(.Ce 2 true (EJ IW) [(.Ak Pp (.A1 M1 {3} {1,0}))])] [])]),(.CG 1)]
def gW:List S:=[(aS 1 (.Ak (λ_=>some (.Bl true [])) tN)),(fW 2 (.call 11 [{0}]) [(.ifs (.Ak (FI .int) {2}) [(.Ce 1 false (Ds λc x k=>Dp c k x) [(.cst (.p (.bl true))),{2}])] [])]),(.ret (.Ak CP {1}))]
noncomputable def gV:List S:=[(.ifs (.not (.Ak (FI .str) {0})) rF []),(.ifs (.or (.A1 L4 (.Ak AD {0}) {1,0}) (.A1 Nr (.Ak AD {0}) {8,0})) rF []),(.ret (.and (.Tn L8 L8 {"A"} {0,0,0} {"Z"}) (.Ak Fc (.comp (.nm 1) AM (.A1 M1 {0} {1,0}) [] (.Tn L8 L8 {"a"} {1} {"z"}) [none,none]))))]
def gU:List S:=[(.ret (.and (.call 7 [{0}]) (.A1 L4 (.Ak (Hc TJ) {0}) (.A1 (Aw JF) {10,0} {60,0}))))]
def gS:List S:=[(.ret (.and (.Ak (FI .tuple) {0}) (.A1 L8 (.Ak AD {0}) {3,0})))]
def gR:List S:=[(.ret (.and (.call 15 [{0}]) (.Ak Fc (.comp (.nm 1) AM {0} [] (.app 2 [{1}]) [none,none,some 1]))))]
def gQ:List S:=[(.ret (.and (.call 16 [{0},(.cst (.p (.fn 6 [])))]) (.A1 Bd (.Ak L6 {0}) (.Ak AD {0}))))]
def gO:List S:=[(.ret (.and (.Ak (FI .tuple) {0}) (.Tn L8 L8 {1,0} (.Ak AD {0}) {4,0})))]
def gN:List S:=[(.ret (.and (.Ak (FI .tuple) {0}) (.and (.A1 Nr (.Ak AD {0}) {0,0}) (.Ak (FI .str) {0,0,0}))))]
noncomputable def gM:List S:=[(.ifs (.not (.call 19 [{0}])) rF []),(aS 1 {0,0,0}),(.ifs (.A1 Bd {1} {"number"}) [(.ret (.and (.A1 Bd (.Ak AD {0}) {2,0}) (.call 14 [{0,1,0}])))] []),(.ifs (.A1 Bd {1} {"name"}) [(.ret (.and (.A1 Bd (.Ak AD {0}) {2,0}) (.call 6 [{0,1,0}])))] []),(.ifs (.A1 Em (.Ak AD {0}) {3,0}) rF []),(.ifs (.A1 Bd {1} {"form"}) [(.ret (.and (.call 13 [{0,1,0}]) (.call 15 [{0,2,0}])))] []),(.ifs (.A1 Bd {1} {"call"}) [(.ret (.and (.call 6 [{0,1,0}]) (.call 15 [{0,2,0}])))] []),(.ret (.and (.A1 Bd {1} {"case"}) (.and (.call 18 [{0,2,0}]) (.Ak Fc (.comp (.nm 1) AM {0,2,0} [] (.call 20 [{1}]) [none,none])))))]
def gK:List S:=[(.ifs (.or (.A1 Bd {0,0,0} {"form"}) (.A1 Bd {0,0,0} {"call"})) [(.ret (.Ak CP {0,2,0}))] []),(.ifs (.A1 Bd {0,0,0} {"case"}) [(.ret (.A1 Ad (.lst [{0,1,0}]) (.comp (.nm 1) AM {0,2,0} [] {1,2,0} [none,none])))] []),(.ret (.lst []))]
noncomputable def gJ:List S:=[(aS 1 (.lst [(.tup [{0},{0,0}])])),(aS 2 {0,0}),(.QZ {1} [(aS 2 (.A1 Ad {2} {1,0})),(.pop (some 3) 1),(aS 4 {3,0,0}),(aS 5 {3,1,0}),(.ifs (.or (.A1 Nr {2} {40,0}) (.or (.A1 Nr {5} {11,0}) (.not (.call 21 [{4}])))) rF []),(.Ce 1 true (EJ IW) [(.comp (.nm 1) AM (.call 22 [{4}]) [] (.tup [{1},(.A1 Ad {2} {1,0})]) [none,none,some 5])])]),(.ret (.cst (.p (.bl true))))]
def gI:List S:=[(.ret (.and (.call 10 [{0}]) (.Ak Fc (.comp (.nm 1) AM (.call 12 [{0}]) [] (.A1 L4 {1} {2}) [none,none,some 1]))))]
def gH:List S:=[(.ret (.Kf 16 {0} 83 [1]))]
def gG:List S:=[(.ifs (.or (.not (.Ak (FI .tuple) {0})) (.A1 Em (.Ak AD {0}) {2,0})) rF []),(.ret (.and (.call 13 [{0,0,0}]) (.call 25 [{0,1,0},{1}])))]
noncomputable def gE:List S:=[(aS 1 {0,2,0}),(.ifs (.or (.not (.call 6 [{0,1,0}])) (.or (.not (.call 7 [{1}])) (.or (.A1 L4 {1} {0,0}) (.A1 Nr {1} {3,0})))) rF []),(.ret (.and (.call 18 [{0,3,0}]) (.Ak Fc (.comp (.nm 1) AM {0,3,0} [] (.call 26 [{1},{2}]) [none,none,some 1]))))]
def gD:List S:=[(.ret (.and (.call 6 [{0,1,0}]) (.and (.call 6 [{0,2,0}]) (.and (.call 25 [{0,3,0},{1,0}]) (.call 24 [{0,4,0},{1,0}])))))]
def gC:List S:=[(.ret (.or (.A1 Ft {0} tN) (.call 6 [{0}])))]
def gB:List S:=[(.ret (.and (.Ak Fc (.comp (.nm 1) AM (.Xx Vq {0} {1,0} (.Ak (Hc N5) {2,0})) [] (.call 6 [{1}]) [none,none])) (.and (.call 17 [(.A1 Ae {0} (.Ak (Hc N5) {2,0}))]) (.call 23 [(.A1 Ae {0} (.Ak (Hc N5) {1,0}))]))))]
noncomputable def dH:List S:=[(.ifs (.or (.not (.call 19 [{0}])) (.A1 Em (.A1 Eu (.cst (.Bl false SA)) {0,0,0}) (.Ak AD {0}))) rF []),(aS 1 {0,0,0}),(.ifs (.A1 Bd {1} {"kind"}) [(.ret (.call 27 [{0}]))] []),(.ifs (.A1 Bd {1} {"class"}) [(.ret (.and (.call 6 [{0,1,0}]) (.call 16 [{0,2,0},(.cst (.p (.fn 6 [])))])))] []),(.ifs (.A1 Bd {1} {"deed"}) [(.ret (.call 28 [{0}]))] []),(.ifs (.A1 Bd {1} {"house"}) [(.ret (.and (.call 6 [{0,1,0}]) (.and (.call 6 [{0,2,0}]) (.call 16 [{0,3,0},(.cst (.p (.fn 29 [])))]))))] []),(.ifs (.A1 Bd {1} {"ask"}) [(.ret (.call 23 [{0,1,0}]))] []),(.ret (.call 30 [{0}]))]
def gA:List S:=[(.ifs (.or (.not (.Ak (FI .list) {0})) (.A1 Nr (.Ak AD {0}) {40,0})) [.no] []),(.Di (.tup [1,2]) IY {0} [(.ifs (.not (.call 31 [{2}])) [.no] [])]),(.ret (.Ak CP {0}))]
noncomputable def gz:List S:=[(aS 1 {0,0,0}),(.ifs (.A1 Bd {1} {"kind"}) [(.ret (.A1 Ad (.lst [(.tup [{"kind"},{0,1,0}])]) (.comp (.nm 1) AM {0,3,0} [] (.tup [{"form"},{1,0,0}]) [none,none])))] []),(.ifs (.A1 Bd {1} {"class"}) [(.ret (.lst [(.tup [{"class"},{0,1,0}])]))] []),(.ifs (.or (.A1 Bd {1} {"deed"}) (.A1 Bd {1} {"def"})) [(.ret (.lst [(.tup [{"function"},{0,1,0}])]))] []),(.ifs (.A1 Bd {1} {"once"}) [(.ret (.lst [(.tup [{"once"},{0,1,0}])]))] []),(.ifs (.A1 Bd {1} {"house"}) [(.ret (.lst [(.tup [{"house"},{0,1,0},{0,2,0}])]))] []),(.ifs (.A1 Bd {1} {"does"}) [(.ret (.lst [(.tup [{"does"},{0,1,0},{0,2,0},{0,3,0}])]))] []),(.ret (.lst []))]
noncomputable def cD:List S:=[(aS 0 (.Ak (λ_=>some (.Bl true [])) tN)),(fW 1 (.cst (.p (.tup [(.tup [(.str "kind"),(.str "whole"),(.int 0),(.tup [])]),(.tup [(.str "kind"),(.str "truth"),(.int 0),(.tup [(.tup [(.str "No"),(.tup [])]),(.tup [(.str "Yes"),(.tup [])])])])]))) [(fW 2 (.call 33 [{1}]) [(.Ce 0 false (Ds λc x k=>Dp c k x) [(.cst (.p (.bl true))),{2}])])]),(fW 3 (.cst (.p (.tup [(.str "plus"),(.str "minus"),(.str "under")]))) [(.Ce 0 false (Ds λc x k=>Dp c k x) [(.cst (.p (.bl true))),(.tup [{"function"},{3}])])]),(.CG 0)]
def gy:List S:=[(aS 1 (.call 34 [])),(.Di (.tup [2,3]) IY {0} [(fW 4 (.call 33 [{3}]) [(.ifs (.A1 Nn {4} {1}) [(.CG 2)] []),(.Ce 1 false (Ds λc x k=>Dp c k x) [(.cst (.p (.bl true))),{4}])])]),rN]
def gx:List S:=[(.ifs (.A1 Bd {0,0,0} {"deed"}) [(.ret (.A1 Ad (.Ak CP {0,3,0}) (.lst [{0,4,0}])))] []),(aS 1 (.lst [])),(.ifs (.A1 Bd {0,0,0} {"kind"}) [(fW 2 {0,3,0} [(.Ce 1 true (EJ IW) [{2,1,0}])])] []),(.CG 1)]
def gw:List S:=[(aS 1 (.lst [])),(fW 2 (.call 36 [{0}]) [(.Ce 1 true (EJ IW) [(.comp (.nm 1) AM (.call 11 [{2}]) [(.Ak (FI .tuple) {1})] {1} [none,none])])]),(.CG 1)]
def gv:List S:=[(.ifs (.A1 Bd {0,0,0} {"house"}) [(.ret (.lst [{0,2,0}]))] []),(.ret (.comp (.nm 1) AM (.call 37 [{0}]) [] {1,0,0} [none,none]))]
noncomputable def gu:List S:=[(.ifs (.A1 Bd {0,0,0} {"class"}) [(.ret (.Ak CP {0,2,0}))] []),(.ifs (.A1 Bd {0,0,0} {"deed"}) [(.ret (.lst [{0,2,0}]))] []),(.ifs (.A1 Bd {0,0,0} {"house"}) [(.ret (.A1 Ad (.lst [{0,1,0}]) (.comp (.nm 1) AM {0,3,0} [(.A1 E5 {1} tN)] {1} [none,none])))] []),(.ret (.lst []))]
noncomputable def gr:List S:=[(.ifs (.A1 Bd {1,0,0} {"once"}) [(.ret (.A1 Ft (.Bq 77 {0} [{1,1,0}]) tN))] []),(.ifs (.A1 Em {1,0,0} {"does"}) rF []),(aS 2 (.Bq 77 {0} [{1,3,0}])),(.ret (.or (.A1 Ft (.Bq 79 {0} [{1,1,0},{1,2,0}]) tN) (.or (.A1 Ft {2} tN) (.A1 Em {2,0,0} {1,1,0}))))]
noncomputable def gq:List S:=[(.ifs (.Ak anyC (.comp (.nm 1) AM (.call 38 [{1}]) [] (.A1 Ft (.Bq 72 {2} [{1}]) tN) [none,none,some 0])) rT []),(.ifs (.Ak anyC (.comp (.nm 1) AM (.call 39 [{1}]) [] (.A1 Ft (.Bq 75 {2} [{1}]) tN) [none,none,some 0])) rT []),(.ret (.call 40 [{0},{1}]))]
noncomputable def dG:List S:=[(.ifs (.A1 Bd {1,0,0} {"house"}) [(.ret (.A1 Em (.Ak AD {1,3,0}) (.Bq 72 {0} [{1,2,0}])))] []),(.ifs (.A1 Bd {1,0,0} {"once"}) [(.ret (.A1 Em (.Ak AD {1,2,0}) (.Ak AD (.A1 Ae (.Bq 77 {0} [{1,1,0}]) {1,0}))))] []),(.ifs (.A1 Bd {1,0,0} {"does"}) [(.ret (.A1 Em (.Ak AD {1,4,0}) (.Ak AD (.A1 Ae (.Bq 77 {0} [{1,3,0}]) {1,0}))))] []),(.ret (.Ak anyC (.comp (.nm 1) AM (.call 37 [{1}]) [] (.A1 Em (.A1 (Aw ER) (.Ak AD {1}) {1,0}) (.Bq 72 {2} [{1,0,0}])) [none,none,some 0])))]
def gp:List S:=[(.ret (.and (.A1 Bd {1,0,0} {"class"}) (.A1 Nn {1,1,0} (.Bq 76 {0} [{1,1,0}]))))]
def gn:List S:=[(.ret (.and (.A1 Bd {1,0,0} {"deed"}) (.not (.Ak anyC (.comp (.nm 1) AM (.call 36 [{1}]) [] (.call 12 [{1}]) [none,none])))))]
def gm:List S:=[(.ifs (.A1 Em {1,0,0} {"house"}) rF []),(aS 2 (.Bq 79 {0} [{1,1,0},{1,2,0}])),(.ret (.Ak anyC (.comp (.nm 1) AM (.Bq 78 {0} [{1,1,0}]) [] (.A1 Ft (.Bq 82 {2} [{3},{1}]) tN) [none,none,some 0,some 2])))]
def gj:List S:=[(.ifs (.or (.A1 Ft {1} tN) (.A1 Bd {1} {2})) rT []),(.ret (.and (.A1 E5 {2} tN) (.A1 Nn {1} (.Bq 76 {0} [{2}]))))]
noncomputable def gi:List S:=[(.ifs (.A1 Em {1,0,0} {"house"}) rF []),(fW 2 (.Bq 75 {0} [{1,1,0}]) [(aS 3 (.Bq 79 {0} [{2},{1,2,0}])),(.ifs (.A1 Ft {3} tN) rT []),(.ifs (.not (.Ak Fc (.comp (.tup [1,2]) Jf (.A1 Gq (.Bq 81 {0} [{3}]) {1,3,0}) [] (.call 46 [{3},{1},{2}]) [none,none,none,some 0]))) rT [])]),rf]
def gh:List S:=[(.Di (.tup [2,3]) IY (.Bq 71 {0} []) [(.ifs (.app 1 [{0},{3}]) [(.CG 2)] [])]),rN]
noncomputable def gg:List S:=[(aS 1 (.call 35 [(.Bq 71 {0} [])])),(.ifs (.A1 E5 {1} tN) [.no] []),(aS 1 (.call 48 [{0},(.cst (.p (.fn 41 [])))])),(.ifs (.A1 E5 {1} tN) [.no] []),(aS 1 (.call 48 [{0},(.cst (.p (.fn 42 [])))])),(.ifs (.A1 E5 {1} tN) [.no] []),(aS 1 (.call 48 [{0},(.cst (.p (.fn 43 [])))])),(.ifs (.A1 E5 {1} tN) [.no] []),(aS 1 (.call 48 [{0},(.cst (.p (.fn 44 [])))])),(.ifs (.A1 E5 {1} tN) [.no] []),(aS 1 (.call 48 [{0},(.cst (.p (.fn 45 [])))])),(.ifs (.A1 E5 {1} tN) [.no] []),(aS 1 (.call 48 [{0},(.cst (.p (.fn 47 [])))])),(.ifs (.A1 E5 {1} tN) [.no] [])]
noncomputable def dE:List S:=[(aS 2 {0,0}),(.ifs (.A1 L4 {1} (.Ak AD {0})) [(aS 2 (mO (.A1 Ae {0} {1}) {2147483629,0}))] []),(.ret (mO (.A1 mulC (.A1 Ad (.A1 Ad (.A1 Ad (.A1 mulC {2} {2}) (.A1 mulC {3,0} {2})) (.A1 mulC (.A1 mulC {5,0} {1}) {1})) {17,0}) {69621,0}) {2147483647,0}))]
noncomputable def gf:List S:=[(aS 2 {"abcdefghijklmnopqrstuvwxyz"}),(aS 3 (mO {0} (.A1 (Aw ER) {27,0} {1}))),(aS 0 (dO {0} {27,0})),(aS 4 {""}),(fR 5 (mO {0} {8,0}) [(aS 4 (.A1 Ad {4} (.A1 Ae {2} (mO (dO (.A1 mulC {0} (.A1 Ad {5} {3,0})) {7,0}) {26,0}))))]),(aS 6 (mO (dO {0} {8,0}) (.A1 Ad (.Ak AD {4}) {1,0}))),(aS 7 (.lst [])),(fR 5 {1} [(aP 7 (.A1 Ad (.A1 Ad (.A1 Ol {4} {6}) (.A1 Ae {2} (.A1 Ad {3} {5}))) (.A1 M1 {4} {6})))]),(fW 8 (.lst [{"whole"},{"truth"},{"plus"},{"minus"},{"under"}]) [(.ifs (.A1 Nn {8} {7}) [(.ret (.Ak CP (.Xx Vq {2} {3} (.A1 Ad {3} {1}))))] [])]),(.CG 7)]
noncomputable def dD:List S:=[(aS 2 {"abcdefghijklmnopqrstuvwxyz"}),(aS 3 (.Ak G7 {2})),(aS 4 (mO {0} (.A1 (Aw ER) {27,0} {1}))),(aS 5 {""}),(fR 6 (mO (dO {0} {27,0}) {7,0}) [(aS 5 (.A1 Ad {5} (.A1 Ae {2} (mO (dO (.A1 mulC {0} (.A1 Ad {6} {5,0})) {11,0}) {26,0}))))]),(aS 7 (.comp (.nm 1) DP {1} [] (.A1 Ad (.A1 Ae {3} (.A1 Ad {4} {1})) {2}) [none,none,some 5,some 3,some 4])),(.ifs (.A1 Bd (mO (dO {0} {200,0}) {2,0}) {1,0}) [(aS 8 (mO (dO {0} {400,0}) (.A1 Ad (.Ak AD {5}) {1,0}))),(aS 7 (.lst [])),(fR 6 {1} [(aS 9 (.A1 Ad (.A1 Ae {3} {4}) (.A1 Ol {5} {8}))),(aP 7 (.A1 Ad (.A1 Ad {9} (.A1 Ae {2} (.A1 Ad {4} {6}))) (.A1 M1 {5} {8})))])] []),(.ifs (.or (.A1 Nn {"No"} {7}) (.A1 Nn {"Yes"} {7})) [(.ret (.comp (.nm 1) DP {1} [] (.A1 Ad {"X"} (.A1 Ae {3} (.A1 Ad {2} {1}))) [none,none,some 4,some 2]))] []),(.CG 7)]
noncomputable def cC:List S:=[(aS 4 (.A1 Ad (.A1 Ad (.lst [(.tup [{"whole"}]),(.tup [{"truth"}]),(.tup [{1,0,0}])]) (.Ak En {2})) (.Ak En {2}))),(aS 5 (mO {0} (.A1 Ad (.Ak AD {4}) {2,0}))),(.ifs (.or (.A1 L4 {5} (.Ak AD {4})) (.A1 Bd {3} {0,0})) [(.ret (.A1 Ae {4} (mO {5} (.Ak AD {4}))))] []),(.ifs (.A1 Bd {5} (.Ak AD {4})) [(.ret (.tup [{1,1,0},(.call 53 [(dO {0} {13,0}),{1},{2},(.A1 (Aw ER) {3} {1,0})])]))] []),(aS 6 (.call 53 [(dO {0} {13,0}),{1},{2},(.A1 (Aw ER) {3} {1,0})])),(.ret (.tup [{1,2,0},{6},(.call 53 [(dO {0} {177,0}),{1},{2},{0,0}])]))]
noncomputable def gd:List S:=[(aS 4 (.lst [(.tup [{"number"},(.A1 (Aw ER) (mO (dO {0} {5,0}) (.A1 (Aw JF) {10,0} {9,0})) (.A1 mulC {5,0} (.A1 (Aw JF) {10,0} {8,0})))])])),(aP 4 (.tup [{"form"},(.A1 Ae {2} (mO (dO {0} {5,0}) (.Ak AD {2}))),(.tup [])])),(aS 5 (.A1 Ae (.A1 Ad {3} (.lst [{"plus"}])) (mO (dO {0} {5,0}) (.A1 Ad (.Ak AD {3}) {1,0})))),(aP 4 (.tup [{"call"},{5},(.tup [(.tup [{"number"},{1,0}])])])),(fW 6 {1} [(aP 4 (.tup [{"name"},{6}]))]),(.ret (.A1 Ae {4} (mO {0} (.Ak AD {4}))))]
noncomputable def gb:List S:=[(aS 3 (.lst [])),(fR 4 {3,0} [(aS 5 (.lst [])),(fR 6 (.A1 Ad {1,0} (mO (dO {0} (.A1 Ad {4} {3,0})) {2,0})) [(aS 7 (.lst [])),(fR 8 (mO (dO {0} (.A1 Ad (.A1 Ad {4} {6}) {2,0})) {4,0}) [(aP 7 (.call 53 [(dO {0} (.A1 Ad (.A1 Ad (.A1 Ad (.A1 mulC {5,0} {4}) (.A1 mulC {7,0} {6})) (.A1 mulC {11,0} {8})) {2,0})),{1},{4},{1,0}]))]),(aP 5 (.tup [(.A1 Ae {2} (.A1 Ad (.A1 mulC {2,0} {4}) {6})),(.Ak Jm {7})]))]),(aP 3 (.tup [{"kind"},(.A1 Ae {1} {4}),{4},(.Ak Jm {5})]))]),(.CG 3)]
noncomputable def g9:List S:=[(.asg (.tup [2,3,4]) {1}),(aS 5 (.A1 Ae (.lst [(.tup []),(.tup [{2}])]) (mO {0} {2,0}))),(aS 6 (.A1 Ae (.lst [(.tup []),(.tup [{2}]),(.tup [{3}]),(.tup [{2},{3}]),(.tup [{3},{2}])]) (mO (dO {0} {2,0}) {5,0}))),(.ret (.lst [(.tup [{"class"},{2},(.tup [])]),(.tup [{"class"},{3},{5}]),(.tup [{"class"},{4},{6}])]))]
noncomputable def g8:List S:=[(aS 4 (.lst [])),(fR 5 (.A1 Ad {1,0} (mO {0} {3,0})) [(aS 6 (dO {0} (.A1 Ad {3,0} (.A1 mulC {4,0} {5})))),(aS 7 (.comp (.nm 1) DP (mO {6} {4,0}) [] (.call 53 [(dO {3} (.A1 Ad {1} {2,0})),{2},{1,0},{1,0}]) [none,none,some 3,some 6])),(aS 8 (.call 53 [(dO {6} {7,0}),{3},{1,0},{1,0}])),(aS 9 (mO (dO {6} {11,0}) (.A1 Ad (.Ak AD {7}) {1,0}))),(.ifs (.A1 Bd {9} (.Ak AD {7})) [(aS 8 (.A1 Ae (.lst [{0,0},(.tup [{3,1,0},{0,0}])]) (mO (dO {6} {50,0}) {2,0})))] [(.Ce 7 false (Ds λc x k=>Dp c k x) [(.A1 Ae (.lst [{0,0},(.tup [{3,1,0},{0,0}])]) (mO (dO {6} {50,0}) {2,0})),{9}])]),(aP 4 (.tup [{"deed"},(.A1 Ae {1} {5}),(.A1 Ae {2} (mO (dO {6} {100,0}) {3,0})),(.Ak Jm {7}),{8}]))]),(.CG 4)]
noncomputable def fZ:List S:=[(aS 5 (.lst [])),(fR 6 {1} [(aS 7 (mO (dO {0} (.A1 Ad (.A1 mulC {3,0} {6}) {1,0})) {5,0})),(aS 8 {2}),(.ifs (.A1 Bd {7} {1,0}) [(aS 8 {4,2,0})] []),(.ifs (.or (.A1 Bd {7} {2,0}) (.and (.A1 Bd {7} {3,0}) (.A1 Bd {3} (.tup [])))) [(aS 8 tN)] []),(aP 5 {8})]),(.ret (.Ak Jm {5}))]
noncomputable def fX:List S:=[(aS 4 (.lst [])),(fR 5 {4,0} [(aS 7 (.comp (.nm 1) DP {3,0} [] (.A1 Nr (mO (dO {2} (.A1 Ad (.A1 Ad (.A1 mulC {7,0} {3}) (.A1 mulC {1} {1})) {1,0})) {3,0}) {0,0}) [none,none,some 0,some 5])),(fW 6 (.lst [{2,0},{1,0},{0,0}]) [(fW 8 (.A1 Ae (.A1 Ae {3} {6}) {2,0}) [(.ifs (.A1 Ae {7} {6}) [(.Ce 7 false (Ds λc x k=>Dp c k x) [(.cst (.p (.bl true))),(.A1 Dx {2} {8})])] [])])]),(aS 9 (.A1 Ae (.A1 Ad {1} (.lst [{"whole"}])) {5})),(fR 6 {3,0} [(.ifs (.A1 Ae {7} {6}) [(aS 10 (.call 58 [(dO {0} (.A1 Ad {5} {2,0})),(mO {5} {3,0}),(.A1 Ae {2} {6}),(.A1 Ae (.A1 Ae {3} {6}) {2,0}),{2}])),(aP 4 (.tup [{"house"},(.A1 Ae {2} {6}),{9},{10}]))] [])])]),(.CG 4)]
noncomputable def fV:List S:=[(aS 4 (.lst [])),(aS 5 (.comp (.nm 1) AM {1} [] {1,1,0} [none,none])),(fR 6 (.Ak AD {1}) [(.asg (.tup [7,8,9,10,11]) (.A1 Ae {1} {6})),(aS 12 (.A1 Ol (.tup [{"u"},{"v"},{"w"}]) (.Ak AD {10}))),(aS 13 (.A1 Bd (mO (dO {0} (.A1 Ad {6} {1,0})) {2,0}) {1,0})),(.ifs {13} [(aP 4 (.tup [{"once"},{8},{12},(.call 54 [(dO {0} {3,0}),{12},{3},{5}])]))] []),(fR 14 (.Ak AD {2}) [(aS 15 (.A1 Ae {2} {14})),(.ifs (.and (.A1 Bd {15,1,0} {9}) (.or (.not {13}) (.A1 Bd (mO (dO {0} (.A1 Ad {14} {2,0})) {2,0}) {1,0}))) [(aS 16 (.call 54 [(dO {0} (.A1 Ad {14} {3,0})),{12},{3},{5}])),(aP 4 (.tup [{"does"},{9},{15,2,0},{8},{12},{16}]))] [])])]),(.CG 4)]
def fU:List S:=[(aS 2 (.lst [])),(fW 3 {0} [(aS 1 (mO (.A1 Ad (.A1 mulC {1} {48271,0}) {3,0}) {2147483647,0})),(.Ce 2 true (Ds SV) [(mO {1} (.A1 Ad (.Ak AD {2}) {1,0})),{3}])]),(.CG 2)]
noncomputable def dC:List S:=[(aS 1 (.call 50 [{0},{0,0}])),(aS 2 (.call 51 [(.call 50 [{0},{1,0}]),{9,0}])),(aS 3 (.A1 Ol {2} {3,0})),(aS 4 (.Xx Vq {2} {3,0} {6,0})),(aS 5 (.A1 M1 {2} {6,0})),(.ifs (.A1 Bd (mO {1} {3,0}) {1,0}) [(aS 4 (.lst [{2,2,0},{2,0,0},{2,1,0}])),(aS 5 (.lst [{2,1,0},{2,2,0},{2,0,0}]))] []),(aS 6 (.call 52 [(.call 50 [{0},{2,0}]),{6,0}])),(aS 7 (.call 56 [(.call 50 [{0},{3,0}]),{4}])),(aS 8 (.call 57 [(.call 50 [{0},{4,0}]),{5},{4},{3}])),(aS 9 (.call 59 [(.call 50 [{0},{5,0}]),{3},{4},{7}])),(aS 10 (.A1 Ad (.A1 Ad (.A1 Ad (.call 55 [(.call 50 [{0},{6,0}]),{3},{6}]) {7}) {8}) {9})),(aS 10 (.A1 Ad {10} (.call 60 [(.call 50 [{0},{7,0}]),{8},{9},{6}]))),(.ifs (.A1 Bd (mO (dO {1} {3,0}) {2,0}) {1,0}) [(aP 10 (.tup [{"ask"},(.call 54 [(dO {1} {6,0}),(.tup []),{6},(.A1 Ol {5} {1,0})])]))] []),(.ret (.call 61 [{10},(.call 50 [{0},{8,0}])]))]
noncomputable def cB:List S:=[(aS 3 (mO {0} {6,0})),(.ifs (.or (.A1 L4 {3} {2,0}) (.and (.A1 Bd {2} {0,0}) (.A1 Em {3} {2,0}))) [(.ret (.A1 Ae (.lst [(.tup [{"whole"}]),(.tup [{"truth"}])]) (mO {3} {2,0})))] []),(.ifs (.A1 Bd {3} {2,0}) [(.ret (.tup [{1,0,0}]))] []),(.ifs (.A1 L4 {3} {5,0}) [(.ret (.tup [{1,1,0},(.call 63 [(dO {0} {6,0}),{1},(.A1 (Aw ER) {2} {1,0})])]))] []),(.ret (.tup [{1,2,0},(.call 63 [(dO {0} {6,0}),{1},(.A1 (Aw ER) {2} {1,0})]),(.call 63 [(dO {0} {91,0}),{1},(.A1 (Aw ER) {2} {1,0})])]))]
def fT:List S:=[(aS 1 (.lst [{""},{""},{""}])),(fW 2 {0} [(.ifs (.A1 Bd {2,0,0} {"kind"}) [(.Ce 1 false (Ds λc x k=>Dp c k x) [{2,1,0},{2,2,0}])] [])]),(.CG 1)]
def fS:List S:=[(fR 3 (.Ak AD {0}) [(.ifs (.A1 Bd (.A1 Ol (.A1 Ae {0} {3}) {3,0}) (.tup [{"house"},{1},{2,0,0}])) [(.CG 3)] [])]),rN]
noncomputable def fQ:List S:=[(.ifs (.or (.not (.Ak (FI .tuple) {1})) (.or (.A1 Em (.Ak AD {1}) {3,0}) (.or (.A1 Em {1,0,0} {"house"}) (.not (.Ak (FI .tuple) {1,2,0}))))) rF []),(.ifs (.or (.Ak (FI .bool) {1,1,0}) (.or (.A1 Em {1,1,0} (.call 65 [{0},{2},{3}])) (.A1 Em (.Ak AD {1,2,0}) (.A1 (Aw ER) (.Ak AD {3}) {1,0})))) rF []),(fR 4 (.Ak AD {1,2,0}) [(aS 5 (.A1 Ae (.A1 Ae (.A1 Ae {0} {1,1,0}) {3,0}) {4})),(.ifs (.A1 Ft {5} tN) [(.ifs (.A1 E5 (.A1 Ae {1,2,0} {4}) tN) rF [])] [(.ifs (.not (.call 66 [{0},(.A1 Ae {1,2,0} {4}),{5},(.A1 Ae {3} (.A1 Ad {4} {1,0}))])) rF [])])]),(.ret (.cst (.p (.bl true))))]
def fO:List S:=[(aS 3 (.call 65 [{0},{1},{2}])),(.ifs (.A1 Ft {3} tN) rT []),(.Di (.tup [4,5]) Jf (.A1 Gq (.A1 Ae (.A1 Ae {0} {3}) {3,0}) (.A1 M1 {2} {1,0})) [(.ifs (.and (.A1 E5 {4} tN) (.call 67 [{0},{4},{5}])) rT [])]),rf]
noncomputable def fM:List S:=[(aS 1 (.call 62 [{0}])),(aS 2 (.call 64 [{1}])),(aS 3 (.comp (.nm 1) AM {1} [(.A1 Bd {1,0,0} {"class"})] {1,1,0} [none,none])),(aS 4 (.make 69 [(.Ak CP {1})])),(.Di (.nm 5) KH (.A1 Gq {9,0} (.A1 (Aw Pb) {10,0} (.A1 (Aw P9) {21,0} (.Ak AD {0})))) [(aS 6 (.call 63 [(.call 50 [{0},{5}]),{2},{3,0}])),(fW 7 {3} [(aS 8 (.call 5 [{4},{7},{6}])),(.ifs (.A1 Ft {8} tN) [(.ifs (.not (.call 67 [{1},{7},{6}])) rF [])] [(.ifs (.not (.call 66 [{1},{8},{7},{6}])) rF [])])])]),(.ret (.A1 Bd (.Bq 71 {4} []) {1}))]
noncomputable def fL:List S:=[(.Ce 0 false (EJ (FF 0)) [(.call 32 [{1}])]),(.Ce 0 false (EJ (FF 1)) [(.Ak (λ_=>some (.Bl true [])) tN)]),(.Ce 0 false (EJ (FF 2)) [(.Ak (λ_=>some (.Bl true [])) tN)]),(fW 2 (.cst (.p (.tup [(.tup [(.str "kind"),(.str "whole"),(.int 0),(.tup [])]),(.tup [(.str "kind"),(.str "truth"),(.int 0),(.tup [(.tup [(.str "No"),(.tup [])]),(.tup [(.str "Yes"),(.tup [])])])])]))) [(.HQ 0 70 [{2}])]),(.Di (.tup [3,2]) IY (.Ak (DA 0) {0}) [(.HQ 0 70 [{2}]),(fW 4 (.call 33 [{2}]) [(.Ce 0 false (Ds (Bz 2)) [{3},{4}])])]),(.expr (.call 49 [{0}]))]
def fJ:List S:=[(fW 2 (.call 33 [{1}]) [(.Ce 0 false (Ds (Bz 1)) [{1},{2}])])]
def fI:List S:=[(.ret (.Ak CP (.Ak (DA 0) {0})))]
def fH:List S:=[(aS 2 (.A1 Eu (.Ak (DA 1) {0}) (.tup [{"kind"},{1}]))),(.ret (.ite (.A1 Ft {2} tN) tN {2,2,0}))]
def fG:List S:=[(aS 2 (.A1 Eu (.Ak (DA 1) {0}) (.tup [{"class"},{1}]))),(.ret (.ite (.A1 Ft {2} tN) tN (.Ak CP {2,2,0})))]
noncomputable def fF:List S:=[(aS 2 (.Bq 75 {0} [{1}])),(.ifs (.A1 Ft {2} tN) [rN] []),(aS 3 (.Ak (λ_=>some (.Bl true [])) tN)),(.QZ {2} [(.pop (some 4) 2),(.ifs (.A1 JN {4} {3}) [(.Ce 3 false (Ds λc x k=>Dp c k x) [(.cst (.p (.bl true))),{4}]),(.Ce 2 true (EJ IW) [(.Bq 75 {0} [{4}])])] [])]),(.ret (.comp (.nm 1) AM (.Ak (DA 0) {0}) [(.and (.A1 Bd {1,0,0} {"class"}) (.A1 Nn {1,1,0} {2}))] {1,1,0} [none,none,some 3]))]
def fE:List S:=[(aS 2 (.A1 Eu (.Ak (DA 1) {0}) (.tup [{"function"},{1}]))),(.ifs (.or (.A1 Ft {2} tN) (.A1 Em {2,0,0} {"deed"})) [rN] []),(.ret (.tup [{2,2,0},{2,3,0},{2,4,0}]))]
def fB:List S:=[(.ifs (.A1 JN (.tup [{"class"},{1}]) (.Ak (DA 1) {0})) [rN] []),(.ret (.comp (.nm 1) AM (.Ak (DA 0) {0}) [(.and (.A1 Bd {1,0,0} {"deed"}) (.A1 Bd {1,2,0} {2}))] {1,1,0} [none,none,some 1]))]
def fA:List S:=[(.ret (.A1 Eu (.Ak (DA 2) {0}) (.tup [{"house"},{1},{2}])))]
def fy:List S:=[(.ifs (.or (.A1 L4 {1} {0,0}) (.A1 Zu {1} (.Ak AD (.Ak (DA 0) {0})))) [rN] []),(aS 2 (.A1 Ae (.Ak (DA 0) {0}) {1})),(.ret (.ite (.A1 Bd {2,0,0} {"house"}) {2} tN))]
def fw:List S:=[(aS 2 (.Bq 80 {0} [{1}])),(.ret (.ite (.A1 Ft {2} tN) tN {2,3,0}))]
noncomputable def ft:List S:=[(aS 3 (.Bq 80 {0} [{1}])),(.ifs (.or (.A1 Ft {3} tN) (.A1 JN {2} (.Bq 78 {0} [{3,1,0}]))) [rN] []),(aS 4 (.A1 Eu (.Ak (DA 2) {0}) (.tup [{"does"},{3,1,0},{3,2,0},{2}]))),(.ret (.ite (.A1 Ft {4} tN) (.A1 Eu (.Ak (DA 2) {0}) (.tup [{"once"},{2}])) {4}))]
noncomputable def FT:List (Nat×LI):=[(1,#[3,3,false,B1]),(2,#[4,4,false,B2]),(3,#[4,6,false,B3]),(4,#[4,9,false,B4]),(5,#[3,3,false,B5]),(6,#[1,1,false,B6]),(7,#[1,1,false,B7]),(8,#[1,1,false,B8]),(9,#[1,1,false,B9]),(10,#[1,4,false,gY]),(11,#[1,4,false,gX]),(12,#[1,3,false,gW]),(13,#[1,1,false,gV]),(14,#[1,1,false,gU]),(15,#[1,1,false,gS]),(16,#[2,2,false,gR]),(17,#[1,1,false,gQ]),(18,#[1,1,false,gO]),(19,#[1,1,false,gN]),(21,#[1,2,false,gM]),(22,#[1,1,false,gK]),(23,#[1,6,false,gJ]),(24,#[2,2,false,gI]),(25,#[2,2,false,gH]),(26,#[2,2,false,gG]),(27,#[1,2,false,gE]),(28,#[1,1,false,gD]),(29,#[1,1,false,gC]),(30,#[1,1,false,gB]),(31,#[1,2,false,dH]),(32,#[1,3,false,gA]),(33,#[1,2,false,gz]),(34,#[0,4,false,cD]),(35,#[1,5,false,gy]),(36,#[1,3,false,gx]),(37,#[1,3,false,gw]),(38,#[1,1,false,gv]),(39,#[1,1,false,gu]),(40,#[2,3,false,gr]),(41,#[2,2,false,gq]),(42,#[2,2,false,dG]),(43,#[2,2,false,gp]),(44,#[2,2,false,gn]),(45,#[2,3,false,gm]),(46,#[3,3,false,gj]),(47,#[2,4,false,gi]),(48,#[2,4,false,gh]),(49,#[1,2,false,gg]),(50,#[2,3,false,dE]),(51,#[2,9,false,gf]),(52,#[2,10,false,dD]),(53,#[4,7,false,cC]),(54,#[4,7,false,gd]),(55,#[3,9,false,gb]),(56,#[2,7,false,g9]),(57,#[4,10,false,g8]),(58,#[5,9,false,fZ]),(59,#[4,11,false,fX]),(60,#[4,17,false,fV]),(61,#[2,4,false,fU]),(62,#[1,11,false,dC]),(63,#[3,4,false,cB]),(64,#[1,3,false,fT]),(65,#[3,4,false,fS]),(66,#[4,6,false,fQ]),(67,#[3,6,false,fO]),(68,#[1,9,false,fM]),(69,#[2,5,true,fL]),(70,#[2,3,true,fJ]),(71,#[1,1,false,fI]),(72,#[2,3,false,fH]),(75,#[2,3,false,fG]),(76,#[2,5,false,fF]),(77,#[2,3,false,fE]),(78,#[2,2,false,fB]),(79,#[3,3,false,fA]),(80,#[2,3,false,fy]),(81,#[2,3,false,fw]),(82,#[3,5,false,ft]),(83,Zl)]
theorem FA:FT.map (λq=>fns[q.1]?)=FT.map (λq=>some q.2):=by kernel_rfl
theorem gF(i:Nat){f:Nat}{x:LI}(h:FT[i]? =some (f,x)):fns[f]? =some x:=List.map_inj_left.mp FA _ (List.mem_of_getElem? h)
end Lk17
namespace Nv
open PySem
section
variable{cf:CF}{U U':Env}{t u v:T}{ts:List T}{x y z c:C}{cs:List C}{a b:Bool}
theorem d1{f:C->Option C}(e:(den cf t).v U= .ok x)(h:f x=some z):(den cf (.Ak f t)).v U= .ok z:=by
 show((den cf t).v U).bind (λx=>Res.of (f x))=_;rw[e];show Res.of (f x)=_;rw[h];rfl
theorem d2{f:C->C->Option C}(e1:(den cf t).v U= .ok x)(e2:(den cf u).v U= .ok y)(h:f x y=some z):(den cf (.A1 f t u)).v U= .ok z:=by
 show((den cf t).v U).bind (λx=>((den cf u).v U).bind λy=>Res.of (f x y))=_;rw[e1];show((den cf u).v U).bind _=_;rw[e2];show Res.of (f x y)=_;rw[h];rfl
theorem T8{i:Nat}(h:A8 U i=some c):(den cf (.var i)).v U= .ok c.bor:=by
 show Res.of ((A8 U i).map C.bor)=_;rw[h];rfl
theorem d3{f:C->C->C->Option C}{w:C}(e1:(den cf t).v U= .ok x)(e2:(den cf u).v U= .ok y)(e3:(den cf v).v U= .ok z)(h:f x y z=some w):(den cf (.Xx f t u v)).v U= .ok w:=by
 show((den cf t).v U).bind (λx=>((den cf u).v U).bind λy=>((den cf v).v U).bind λz=>Res.of (f x y z))=_;rw[e1];show((den cf u).v U).bind _=_;rw[e2];show((den cf v).v U).bind _=_;rw[e3];show Res.of (f x y z)=_;rw[h];rfl
theorem fz{p:P}{ps:List P}(e:(den cf t).v U= .ok c)(e2:FO cf ts U= .ok ps)(h:c.CK=some p:=by rfl):FO cf (t::ts) U= .ok (p::ps):=by
 show((den cf t).v U).bind (λc=>(Res.of c.CK).bind λx=>(FO cf ts U).bind λxs=>.ok (x::xs))=_;rw[e];show(Res.of c.CK).bind _=_;rw[h];show(FO cf ts U).bind _=_;rw[e2];rfl
theorem dl{ps:List P}(e:FO cf ts U= .ok ps)(h:ps.length<=1000:=by exact Nat.le_of_ble_eq_true rfl):(den cf (.lst ts)).v U= .ok (.lst true ps):=by
 show(FO cf ts U).bind (λps=>if ps.length<=1000 then .ok (C.lst true ps)else .stuck)=_;rw[e];exact iP h
theorem dt{ps:List P}(e:FO cf ts U= .ok ps)(h:ps.length<=1000:=by exact Nat.le_of_ble_eq_true rfl):(den cf (.tup ts)).v U= .ok (.p (.tup ps)):=by
 show(FO cf ts U).bind (λps=>if ps.length<=1000 then .ok (C.p (.tup ps))else .stuck)=_;rw[e];exact iP h
theorem ar(e:(den cf t).v U= .ok c)(e2:BK cf ts U= .ok cs):BK cf (t::ts) U= .ok (c::cs):=by
 show((den cf t).v U).bind (λc=>(BK cf ts U).bind λcs=>.ok (c::cs))=_;rw[e];show(BK cf ts U).bind _=_;rw[e2];rfl
theorem dc{f:Nat}(e:BK cf ts U= .ok cs)(h:cf f cs= .ok c):(den cf (.call f ts)).v U= .ok c:=by
 show(BK cf ts U).bind (λcs=>cf f cs)=_;rw[e];exact h
theorem BL{f:Nat}(e:(den cf t).v U= .ok x)(h:cf f [x]= .ok c):(den cf (.call f [t])).v U= .ok c:=dc (ar e rfl) h
theorem EB{f:Nat}(e:(den cf t).v U= .ok x)(e2:(den cf u).v U= .ok y)(h:cf f [x,y]= .ok c):(den cf (.call f [t,u])).v U= .ok c:=dc (ar e (ar e2 rfl)) h
theorem dm{f:Nat}(e0:(den cf t).v U= .ok x)(e:BK cf ts U= .ok cs)(h:cf f (x::cs)= .ok c)(hO:x.UA=true:=by rfl):(den cf (.Bq f t ts)).v U= .ok c:=by
 show((den cf t).v U).bind (λc=>if c.UA then(BK cf ts U).bind λcs=>cf f (c::cs)else .stuck)=_;rw[e0];show(if x.UA then _ else _)=_;rw[iP hO,e];exact h
theorem Hg{f:Nat}(e0:(den cf t).v U= .ok x)(e:(den cf u).v U= .ok y)(h:cf f [x,y]= .ok c)(hO:x.UA=true:=by rfl):(den cf (.Bq f t [u])).v U= .ok c:=dm e0 (ar e rfl) h hO
theorem di{i f:Nat}{ps:List P}(h0:A8 U i=some (.p (.fn f ps)))(e:BK cf ts U= .ok cs)(h:cf f (cs++ps.map .p)= .ok c):(den cf (.app i ts)).v U= .ok c:=by
 show(Res.of ((A8 U i).bind C.Zz)).bind (λq=>(BK cf ts U).bind λcs=>cf q.1 (cs++q.2.map .p))=_;rw[h0];show(BK cf ts U).bind _=_;rw[e];exact h
theorem bv(e:(den cf t).v U= .ok c)(h:FE c=some a:=by rfl)(hb:(den cf t).b U=((den cf t).v U).bind λc=>Res.of (FE c):=by rfl):(den cf t).b U= .ok a:=by
 rw[hb,e];show Res.of (FE c)=_;rw[h];rfl
theorem bb(e:(den cf t).v U= .ok (bC a))(hb:(den cf t).b U=((den cf t).v U).bind λc=>Res.of (FE c):=by rfl):(den cf t).b U= .ok a:=bv e rfl hb
theorem GY(e:(den cf t).b U= .ok true):(den cf (.not t)).b U= .ok false:=by
 show((den cf t).b U).bind (λk=>.ok (!k))=_;rw[e];rfl
theorem dk(e:(den cf t).b U= .ok false):(den cf (.not t)).b U= .ok true:=by
 show((den cf t).b U).bind (λk=>.ok (!k))=_;rw[e];rfl
theorem Qz(e:(den cf t).b U= .ok true)(e2:(den cf u).b U= .ok a):(den cf (.and t u)).b U= .ok a:=by
 show((den cf t).b U).bind (λk=>if k then(den cf u).b U else .ok false)=_;rw[e];exact e2
theorem UO(e:(den cf t).b U= .ok false):(den cf (.and t u)).b U= .ok false:=by
 show((den cf t).b U).bind (λk=>if k then(den cf u).b U else .ok false)=_;rw[e];rfl
theorem CV(e:(den cf t).b U= .ok false)(e2:(den cf u).b U= .ok a):(den cf (.or t u)).b U= .ok a:=by
 show((den cf t).b U).bind (λk=>if k then .ok true else(den cf u).b U)=_;rw[e];exact e2
theorem Qu(e:(den cf t).b U= .ok true):(den cf (.or t u)).b U= .ok true:=by
 show((den cf t).b U).bind (λk=>if k then .ok true else(den cf u).b U)=_;rw[e];rfl
theorem E7(e:(den cf t).v U= .ok (bC true))(e2:(den cf u).v U= .ok c):(den cf (.and t u)).v U= .ok c:=by
 show((den cf t).v U).bind (λc=>(Res.of c.EL).bind λk=>if k then(den cf u).v U else .ok (C.p (.bl false)))=_;rw[e];exact e2
theorem cG(e:(den cf t).v U= .ok (bC false)):(den cf (.and t u)).v U= .ok (bC false):=by
 show((den cf t).v U).bind (λc=>(Res.of c.EL).bind λk=>if k then(den cf u).v U else .ok (C.p (.bl false)))=_;rw[e];rfl
theorem ay(e:(den cf t).v U= .ok (bC false))(e2:(den cf u).v U= .ok c):(den cf (.or t u)).v U= .ok c:=by
 show((den cf t).v U).bind (λc=>(Res.of c.EL).bind λk=>if k then .ok (C.p (.bl true))else(den cf u).v U)=_;rw[e];exact e2
theorem dJ(e:(den cf t).v U= .ok (bC true)):(den cf (.or t u)).v U= .ok (bC true):=by
 show((den cf t).v U).bind (λc=>(Res.of c.EL).bind λk=>if k then .ok (C.p (.bl true))else(den cf u).v U)=_;rw[e];rfl
theorem dM(e:(den cf t).v U= .ok (bC false)):(den cf (.not t)).v U= .ok (bC true):=by
 show((den cf t).v U).bind (λc=>(Res.of c.EL).bind λk=>.ok (C.p (.bl (!k))))=_;rw[e];rfl
theorem dN(e:(den cf t).v U= .ok (bC true)):(den cf (.not t)).v U= .ok (bC false):=by
 show((den cf t).v U).bind (λc=>(Res.of c.EL).bind λk=>.ok (C.p (.bl (!k))))=_;rw[e];rfl
theorem bP(e:(den cf t).b U= .ok true)(h:(den cf u).v U= .ok c):(den cf (.ite t u v)).v U= .ok c:=by
 show((den cf t).b U).bind (λk=>if k then(den cf u).v U else(den cf v).v U)=_;rw[e];exact h
theorem ZD(e:(den cf t).b U= .ok false)(h:(den cf v).v U= .ok c):(den cf (.ite t u v)).v U= .ok c:=by
 show((den cf t).b U).bind (λk=>if k then(den cf u).v U else(den cf v).v U)=_;rw[e];exact h
theorem bQ{f g:C->C->Option C}(e1:(den cf t).v U= .ok x)(e2:(den cf u).v U= .ok y)(e3:(den cf v).v U= .ok z)(h1:f x y=some (bC a))(h2:g y z=some (bC b)):(den cf (.Tn f g t u v)).v U= .ok (bC (a && b)):=by
 show((den cf t).v U).bind (λx=>((den cf u).v U).bind λy=>(Res.of ((f x y).bind C.EL)).bind λk=>if k then((den cf v).v U).bind λz=>Res.of (g y z)else .ok (C.p (.bl false)))=_;rw[e1];show((den cf u).v U).bind _=_;rw[e2];show(Res.of ((f x y).bind C.EL)).bind _=_;rw[h1];cases a with
 |false=>rfl
 |true=>show((den cf v).v U).bind _=_;rw[e3];show Res.of (g y z)=_;rw[h2];rfl
theorem Mt{cond:Env->Res Bool}{elt:Env->Res C}(p:P->Bool)(f:P->P):∀{xs:List P},(∀x∈xs,∃β,Cs g x U=some β/\cond β= .ok (p x)/\(p x=true->∃c,elt β= .ok c/\c.CK=some (f x)))->C7 g cond elt U xs= .ok ((xs.filter p).map f)
 |[],_=>rfl
 | x ::xs,h=>by
   rintro⟨β,e1,e2,e3⟩:h x (.head _);have ih:=Mt p f λz hz=>h z (.tail _ hz)
   show(Res.of (Cs g x U)).bind _=_;rw[e1];show(cond β).bind _=_;rw[e2];cases hp:p x with
   |false=>rw[List.filter_cons_of_neg (by simp[hp])];exact ih
   |true=>
     rintro⟨c,e4,e5⟩:e3 hp;rw[List.filter_cons_of_pos hp];show(elt β).bind _=_;rw[e4];show(Res.of c.CK).bind _=_;rw[e5];show(C7 g cond elt U xs).bind _=_;rw[ih];rfl
variable{fr:List (Option Nat)}
theorem fc{ks:Sq}{cond:List T}{xs:List P}(p:P->Bool)(f:P->P)(e:(den cf t).v U= .ok c)(hk:ks c=some xs)(hl:xs.length<=100000)(h:∀x∈xs,∃β,Cs g x (AE fr U)=some β/\FP cf cond β= .ok (p x)/\(p x=true->∃c,(den cf u).v β= .ok c/\c.CK=some (f x))):
 (den cf (.comp g ks t cond u fr)).v U= .ok (.lst true ((xs.filter p).map f)):=by
 show((den cf t).v U).bind (λc=>(Res.of (ks c)).bind λxs=>if xs.length<=big then(C7 g (FP cf cond) (den cf u).v (AE fr U) xs).bind λys=>.ok (C.lst true ys)else .stuck)=_;rw[e];show(Res.of (ks c)).bind _=_;rw[hk];show(if xs.length<=big then _ else _)=_;rw[iP (show xs.length<=big from hl),Mt p f h];rfl
theorem filter_tt{α:Type}(l:List α):l.filter (λ_=>true)=l:=List.filter_eq_self.mpr λ_ _=>rfl
theorem XH{ks:Sq}{xs:List P}(f:P->P)(e:(den cf t).v U= .ok c)(hk:ks c=some xs)(hl:xs.length<=100000)(h:∀x∈xs,∃β,Cs g x (AE fr U)=some β/\∃c,(den cf u).v β= .ok c/\c.CK=some (f x)):(den cf (.comp g ks t [] u fr)).v U= .ok (.lst true (xs.map f)):=by
 have:=fc (cond:=[]) (λ_=>true) f e hk hl λx hx=>let⟨β,e1,e2⟩:=h x hx;#[β,e1,rfl,λ_=>e2]
 rwa[filter_tt]at this
end
def WP(r:Fl)(N:Env->Prop)(R:C->Prop):Prop:=match r with
 |.nx U=>N U
 |.ret c=>R c
 |_=>False
section
variable{cf:CF}{U U':Env}{t:T}{ts:List T}{c c':C}{cs:List C}{ss A B:List S}{N:Env->Prop}{R:C->Prop}{g:Tg}
theorem Jg(h:WP (exec cf As s U) (λU'=>WP (execs cf As ss U') N R) R):WP (execs cf As (s::ss) U) N R:=by
 show WP ((exec cf As s U).then (execs cf As ss)) N R;cases e:exec cf As s U with
 |nx U'=>rw[e]at h;exact h
 |ret c=>rw[e]at h;exact h
 |_=>rw[e]at h;exact h.elim
theorem XS(e:exec cf As s U= .nx U')(h:WP (execs cf As ss U') N R):WP (execs cf As (s::ss) U) N R:=Jg (by rw[e];exact h)
theorem av(e:(den cf t).v U= .ok c)(hs:Gg g c U=some U')(h:WP (execs cf As ss U') N R):WP (execs cf As (.asg g t::ss) U) N R:=by
 refine XS (U':=U') ?_ h;show((den cf t).v U).fl _=_;rw[e];show(match Gg g c U with|some U'=>Fl.nx U'|none=>.stuck)=_;rw[hs]
theorem Am{i:Nat}(e:(den cf t).v U= .ok c)(h:WP (execs cf As ss (U.set i (some c))) N R)(ho:c.own=true:=by rfl):WP (execs cf As (.asg (.nm i) t::ss) U) N R:=av e (iP ho) h
theorem Ax(e:(den cf t).v U= .ok c)(h:R c)(ho:c.own=true:=by rfl):WP (execs cf As (.ret t::ss) U) N R:=by
 refine Jg ?_;show WP (((den cf t).v U).fl _) _ _;rw[e];show WP (if c.own then .ret c else .stuck) _ _;rw[iP ho];exact h
theorem MK{i:Nat}(h:R c)(e:A8 U i=some c:=by rfl)(ho:c.own=true:=by rfl):WP (execs cf As (.CG i::ss) U) N R:=by
 refine Jg ?_;show WP (match A8 U i with|some c=>if c.own then .ret c else .stuck|none=>.stuck) _ _;rw[e];show WP (if c.own then .ret c else .stuck) _ _;rw[iP ho];exact h
theorem wit(e:(den cf t).b U= .ok true)(h:WP (execs cf As A U) (λU'=>WP (execs cf As ss U') N R) R):WP (execs cf As (.ifs t A B::ss) U) N R:=by
 refine Jg ?_;show WP (((den cf t).b U).fl _) _ _;rw[e];exact h
theorem XT(e:(den cf t).b U= .ok false)(h:WP (execs cf As B U) (λU'=>WP (execs cf As ss U') N R) R):WP (execs cf As (.ifs t A B::ss) U) N R:=by
 refine Jg ?_;show WP (((den cf t).b U).fl _) _ _;rw[e];exact h
theorem Ag(e:(den cf t).b U= .ok false)(h:WP (execs cf As ss U) N R):WP (execs cf As (.ifs t A []::ss) U) N R:=XT e h
theorem NO{i:Nat}{o:Bool}{f:C->List C->Option C}(e:BK cf ts U= .ok cs)(hf:f c cs=some c')(h:WP (execs cf As ss (U.set i (some c'))) N R)(hg:A8 U i=some c:=by rfl)(ho:(cond o C.SQ λ_=>true) c=true:=by rfl):WP (execs cf As (.Ce i o f ts::ss) U) N R:=by
 refine XS (U':=U.set i (some c')) ?_ h;show(if !(A8 U i).any (cond o C.SQ λ_=>true)then .stuck else(BK cf ts U).fl _)=_;rw[e,iN (by rw[hg];simp[ho])];show(match(A8 U i).bind λc=>f c cs with|some c'=>Fl.nx (U.set i (some c'))|none=>.stuck)=_;rw[hg];show(match f c cs with|some c'=>Fl.nx (U.set i (some c'))|none=>.stuck)=_;rw[hf]
theorem Jh{i:Nat}{ps:List P}(e:(den cf t).v U= .ok (.p p))(hl:ps.length < 100000)(h:WP (execs cf As ss (U.set i (some (.lst true (ps++[p]))))) N R)(hg:A8 U i=some (.lst true ps):=by rfl):WP (execs cf As (.Ce i true (EJ LF) [t]::ss) U) N R:=
 NO (c:=.lst true ps) (ar e rfl) (show(if ps.length < big then some (nw (ps++[p]))else none)=_ from iP hl) h hg rfl
theorem Xu{i:Nat}{ps qs:List P}(e:(den cf t).v U= .ok c)(hc:c.seq? =some qs)(hl:(ps++qs).length<=100000)(h:WP (execs cf As ss (U.set i (some (.lst true (ps++qs))))) N R)(hg:A8 U i=some (.lst true ps):=by rfl):WP (execs cf As (.Ce i true (EJ IW) [t]::ss) U) N R:=by
 refine NO (c:=.lst true ps) (ar e rfl) ?_ h hg rfl;show(c.seq?.bind λqs=>((if(ps++qs).length<=big then some (ps++qs)else none)).map nw)=_;rw[hc];show((if(ps++qs).length<=big then some (ps++qs)else none)).map nw=_;rw[iP (show(ps++qs).length<=big from hl)];rfl
theorem au{i:Nat}{kvs:List (P×P)}(e:(den cf t).v U= .ok (.p p))(e2:(den cf u).v U= .ok (.p q))(hk:Bk kvs q=true)(hl:kvs.length < 100000)(h:WP (execs cf As ss (U.set i (some (.Bl true (dput kvs q p))))) N R)(hg:A8 U i=some (.Bl true kvs):=by rfl):WP (execs cf As (.Ce i false (Ds λc x k=>Dp c k x) [t,u]::ss) U) N R:=
 NO (c:=.Bl true kvs) (ar e (ar e2 rfl)) (show(if Bk kvs q=true/\kvs.length < big then some (C.Bl true (dput kvs q p))else none)=_ from iP #[hk,hl]) h hg rfl
variable{j:Nat}
theorem cE{i:Nat}{kvs:List (P×P)}{fs:List Fd}(e:(den cf t).v U= .ok (.p p))(e2:(den cf u).v U= .ok (.p q))(hj:fs[j]? =some (.d kvs))(hk:Bk kvs q=true)(hl:kvs.length < 100000)(h:WP (execs cf As ss (U.set i (some (.obj true (fs.set j (.d (dput kvs q p))))))) N R)(hg:A8 U i=some (.obj true fs):=by rfl):WP (execs cf As (.Ce i false (Ds (Bz j)) [t,u]::ss) U) N R:=by
 refine NO (c:=.obj true fs) (ar e (ar e2 rfl)) ?_ h hg rfl;show((fs[j]?).bind λd=>d.WD.bind λkvs=>if Bk kvs q=true/\kvs.length < big then some (C.obj true (fs.set j (.d (dput kvs q p))))else none)=_;rw[hj];exact iP #[hk,hl]
theorem ZV{i:Nat}{ps:List P}(hji:j≠i)(h:WP (execs cf As ss ((U.set i (some (.lst true ps))).set j (some (.p p)))) N R)(hg:A8 U i=some (.lst true (ps++[p]))):WP (execs cf As (.pop (some j) i::ss) U) N R:=by
 refine XS ?_ h;show(match(A8 U i).bind JG with|some q=>if j=i then Fl.stuck else .nx ((U.set i (some q.2)).set j (some (.p q.1)))|none=>.stuck)=_;rw[hg];show(match(ps++[p]).getLast?.map λx=>(x,C.lst true (ps++[p]).dropLast)with|some q=>if j=i then Fl.stuck else .nx ((U.set i (some q.2)).set j (some (.p q.1)))|none=>.stuck)=_;rw[List.getLast?_concat,List.dropLast_concat];exact iN hji
theorem GG{b:Env->Fl}:∀{xs:List P} {U:Env} (Q:Nat->Env->Prop),Q 0 U->(∀i x,xs[i]? =some x->∀U,Q i U->∃U1,Cs g x U=some U1/\WP (b U1) (Q (i + 1)) R)->WP (forL g b xs U) (Q xs.length) R
 |[],_,_,h0,_=>h0
 | x::xs,U,Q,h0,hs=>by
   rintro⟨U1,e1,h1⟩:hs 0 x rfl U h0;show WP (match Cs g x U with|some U1=>(b U1).turn (forL g b xs)|none=>.stuck) _ _;rw[e1];show WP ((b U1).turn (forL g b xs)) _ _;cases e:b U1 with
   |nx U2=>rw[e]at h1;exact GG (λi=>Q (i+1)) h1 λi x hx=>hs (i+1) x hx
   |ret c=>rw[e]at h1;exact h1
   |_=>rw[e]at h1;exact h1.elim
theorem XU{r:Fl}{f:Env->Env}(h:WP r (λU=>N (f U)) R):WP (r.fin f) N R:=by
 cases r<;>first|exact h|exact h.elim
theorem EI{ks:Sq}{xs:List P}(Q:Nat->Env->Prop)(e:(den cf t).v U= .ok c)(hk:ks c=some xs)(h0:Q 0 U)(hs:∀i x,xs[i]? =some x->∀U,Q i U->∃U1,Cs g x U=some U1/\WP (execs cf As B U1) (Q (i + 1)) R)(h:∀U,Q xs.length U->WP (execs cf As ss U) N R)(ho:c.own=true:=by rfl)(hl:Fo t=none:=by rfl):WP (execs cf As (.Di g ks t B::ss) U) N R:=by
 refine Jg ?_;show WP (match Fo t with|some i=>_|none=>((den cf t).v U).fl λc=>match ks c with|some xs=>if c.own then(forL g (execs cf As B) xs U).fin id else .stuck|none=>.stuck) _ _;rw[hl];show WP (((den cf t).v U).fl _) _ _;rw[e];show WP (match ks c with|some xs=>if c.own then(forL g (execs cf As B) xs U).fin id else .stuck|none=>.stuck) _ _;rw[hk];show WP (if c.own then _ else _) _ _;rw[iP ho];refine XU ?_;have:=GG (R:=R) Q h0 hs
 revert this
 cases forL g (execs cf As B) xs U<;>first|exact h _|exact id
theorem R4{ks:Sq}{xs:List P}{i:Nat}(Q:Nat->Env->Prop)(hg:A8 U i=some c)(hk:ks c.bor=some xs)(h0:Q 0 (U.set i (some c.bor)))(hs:∀j x,xs[j]? =some x->∀U,Q j U->∃U1,Cs g x U=some U1/\WP (execs cf As B U1) (Q (j + 1)) R)(h:∀U,Q xs.length U->WP (execs cf As ss (R5 (some c) i U)) N R)(hc:(g.slots++CD B).contains i=false:=by rfl):WP (execs cf As (.Di g ks (.var i) B::ss) U) N R:=by
 refine Jg ?_;show WP (match(A8 U i).bind λc=>ks c.bor with|some xs=>if(g.slots++CD B).contains i then .stuck else(forL g (execs cf As B) xs (U.set i ((A8 U i).map C.bor))).fin (R5 (A8 U i) i)|none=>.stuck) _ _;rw[hg];show WP (match ks c.bor with|some xs=>if(g.slots++CD B).contains i then .stuck else(forL g (execs cf As B) xs (U.set i (some c.bor))).fin (R5 (some c) i)|none=>.stuck) _ _;rw[hk];show WP (if(g.slots++CD B).contains i then _ else _) _ _;rw[iN (by rw[hc];exact Bool.false_ne_true)];refine XU ?_;have:=GG (R:=R) Q h0 hs
 revert this
 cases forL g (execs cf As B) xs (U.set i (some c.bor))<;>first|exact h _|exact id
theorem Hm{c:Env->Res Bool}{b:Env->Fl}:∀(n:Nat) (U:Env),Ay c b n U≠.stuck->Ay c b (n + 1) U=Ay c b n U
 |0,U,h=>absurd rfl h
 | n + 1,U,h=>by
   have e1:∀m,Ay c b (m+1) U=(c U).fl λx=>if x then(b U).turn (Ay c b m)else .nx U:=λm=>rfl
   rw[e1]at h;rw[e1,e1];cases hc:c U with
   |stuck=>rfl
   |ok x=>
     rw[hc]at h;cases x with
     |false=>rfl
     |true=>
       have h':(b U).turn (Ay c b n)≠.stuck:=h;show(b U).turn (Ay c b (n+1))=(b U).turn (Ay c b n);cases hb:b U with
       |nx U'=>rw[hb]at h';exact Hm n U' h'
       |_=>rfl
theorem DZ{c:Env->Res Bool}{b:Env->Fl}{n:Nat}(h:Ay c b n U≠.stuck):∀m,Ay c b (n + m) U=Ay c b n U
 |0=>rfl
 | m + 1=>by
   have ih:=DZ h m;rw[<-ih];exact Hm (n+m) U (by rw[ih];exact h)
theorem UT{c:Env->Res Bool}{b:Env->Fl}{n:Nat}(h:WP (Ay c b n U) N R):WP (As c b U) N R:=by
 have hn:Ay c b n U≠.stuck:=λz=>by rw[z]at h;exact h
 have hx:∃n,Ay c b n U≠.stuck:=#[n,hn]
 have e:As c b U=Ay c b n U:=by
  unfold As;rw[dif_pos hx];have:=DZ hx.choose_spec n;rw[<-this,Nat.add_comm];exact DZ hn _
 rw[e];exact h
theorem ZU(Q:Nat->Env->Prop){n:Nat}(h0:Q n U)(hs:∀n U,Q n U->((den cf t).b U= .ok false/\WP (execs cf As ss U) N R)\/((den cf t).b U= .ok true/\WP (execs cf As B U) (λU'=>∃m,m < n/\Q m U') R)):WP (execs cf As (.QZ t B::ss) U) N R:=by
 refine Jg (UT (n:=n+1) ?_)
 have:∀k n U,n < k->Q n U->WP (Ay (den cf t).b (execs cf As B) k U) (λU'=>WP (execs cf As ss U') N R) R:=by
  intro k
  induction k with
  |zero=>intro n U h;exact absurd h (Nat.not_lt_zero _)
  |succ k ih=>
    intro n U hn hq;show WP (((den cf t).b U).fl λx=>if x then(execs cf As B U).turn (Ay (den cf t).b (execs cf As B) k)else .nx U) _ _;rcases hs n U hq with⟨e,h⟩|⟨e,h⟩
    .rw[e];exact h
    .rw[e];show WP ((execs cf As B U).turn (Ay (den cf t).b (execs cf As B) k)) _ _;cases eb:execs cf As B U with
     |nx U'=>rw[eb]at h;rintro⟨m,hm,q⟩:h;exact ih m U' (by lia) q
     |ret c=>rw[eb]at h;exact h
     |_=>rw[eb]at h;exact h.elim
 exact this (n+1) n U (Nat.lt_succ_self _) h0
noncomputable abbrev cN (k:Nat):CF:=Be Lk17.fns As k
variable{np nl:Nat}{args:List C}
theorem cw{f k:Nat}{B:List S}(h:Lk17.fns[f]? =some #[np,nl,false,B])(e:WP (k<<<B>>>(args.map some++List.replicate (nl - np) none)) (λ_=>R (.p .AG)) R)(hl:args.length=np:=by rfl):∃c,cN (k + 1) f args= .ok c/\R c:=by
 have e1:cN (k + 1) f args=Cu (cN k) As #[np,nl,false,B] args:=by
  show(match Lk17.fns[f]? with|some fi=>Cu (cN k) As fi args|none=>.stuck)=_;rw[h]
 have e2:Cu (cN k) As #[np,nl,false,B] args=match execs (cN k) As B (args.map some++List.replicate (nl - np) none)with| .nx _=>.ok (.p .AG)| .ret c=>.ok c|_=>.stuck:=by
  unfold Cu;rw[iP hl];rfl
 rw[e1,e2];cases eb:k<<<B>>>(args.map some++List.replicate (nl-np) none)with
 |nx U=>rw[eb]at e;exact#[_,rfl,e]
 |ret c=>rw[eb]at e;exact#[_,rfl,e]
 |_=>rw[eb]at e;exact e.elim
theorem ce{f k:Nat}{B:List S}(h:Lk17.fns[f]? =some #[np,nl,false,B])(e:WP (k<<<B>>>(args.map some++List.replicate (nl - np) none)) (λ_=>c= .p .AG) (λd=>c=d))(hl:args.length=np:=by rfl):cN (k + 1) f args= .ok c:=by
 rintro⟨d,e1,e2⟩:cw (R:=λd=>c=d) h e hl;rw[e1,e2]
end
end Nv
namespace Nv
open PySem Lk17
def small(c:Nat):Bool:=decide (97<=c) && decide (c<=122)
def great(c:Nat):Bool:=decide (65<=c) && decide (c<=90)
abbrev sT(l:List Nat):Str:=⟨l.toArray⟩
def Ah(x:Str):Bool:=decide (1<=x.cps.toList.length) && decide (x.cps.toList.length<=8) && x.cps.toList.all small
def DU(x:Str):Bool:=match x.cps.toList with
 |[]=>false
 |c::l=>great c && decide (l.length<=7) && l.all small
theorem FZ(a b:Nat):L8 (.p (.str ⟨[a].toArray⟩)) (.p (.str ⟨[b].toArray⟩))=some (bC (decide (a<=b))):=by
 show some (bC (decide (([a]:List Nat)<=[b])))=_
 congr 2
 by_cases h:a<=b
 .simp[h,List.cons_le_cons_iff];lia
 .simp[h,List.cons_le_cons_iff];lia
theorem TF(l:List Bool):Cv P.EL (l.map P.bl)=some l:=by
 induction l with
 |nil=>rfl
 |cons c l ih=>show(some c).bind _=_;rw[Option.bind_some,ih];rfl
variable{α:Type}
theorem all_map(f:α->Bool)(l:List α){o:Bool}:Fc (.lst o (l.map λx=>P.bl (f x)))=some (bC (l.all f)):=by
 have:(l.map λx=>P.bl (f x))=(l.map f).map P.bl:=by rw[map_map];rfl
 rw[this];show((Cv P.EL ((l.map f).map P.bl)).map λbs=>bC (bs.all id))=_;rw[TF,Option.map_some,List.all_map];rfl
theorem len_str{x:Str}(h:x.cps.toList.length<=100000):AD (.p (.str x))=some (.p (.int x.cps.toList.length)):=by
 show((if x.length<=big then some (signs x)else none).map λps=>C.p (.int ps.length))=_;rw[iP (show x.length<=big from(by simpa[Str.length]using h:x.length<=100000))];show some (C.p (.int ((x.cps.toList.map sign).length:Nat)))=_;rw[lM]
theorem XX{x:Str}(h:x.cps.toList.length<=100000)(ha:∀c∈x.cps.toList,c < 128):AM (.p (.str x))=some (x.cps.toList.map sign):=by
 show(match(none:Option (List P))with|some a=>some a|none=>((if x.length<=big then some (signs x)else none).bind λps=>if(x.cps.all λk=>decide (k < 128))=true then some ps else none))=_;rw[iP (show x.length<=big from(by simpa[Str.length]using h:x.length<=100000)),Option.bind_some,iP]
 .rfl
 .rw[<-Array.all_toList,all_eq_true];exact λc hc=>dZ (ha c hc)
theorem Oj{l:List Nat}(h:l.all small=true):∀c∈l,c < 128:=λc hc=>by
 have:=all_eq_true.mp h c hc;simp[small]at this
 lia
theorem I8{k:Nat}{x:Str}(e:k|||t&&&U= .ok (.p (.str x)))(h:x.cps.toList.length<=100000)(hs:x.cps.toList.all small=true):k|||(.Ak Fc (.comp (.nm 1) AM t [] (.Tn L8 L8 {"a"} {1} {"z"}) [none,none]))&&&U= .ok (bC true):=by
 refine d1 (XH (λ_=>.bl true) e (XX h (Oj hs)) (by rw[lM];exact h) λy hy=>?_) ?_
 .obtain⟨c,hc,rfl⟩:=mem_map.mp hy;have:=all_eq_true.mp hs c hc;rw[small,bA]at this;refine#[_,rfl,_,bQ rfl rfl rfl (FZ 97 c) (FZ c 122),?_];rw[this.1,this.2];rfl
 .rw[map_map];exact(all_map (λ_=>true) x.cps.toList).trans (by rw[show x.cps.toList.all (λ_=>true)=true from all_eq_true.mpr λ_ _=>rfl])
section
variable{k:Nat}{x:Str}
theorem P4(h:Ah x=true):1<=x.cps.toList.length/\x.cps.toList.length<=8/\x.cps.toList.all small=true:=by
 simp only[Ah,bA,decide_eq_true_eq]at h;exact#[h.1.1,h.1.2,h.2]
variable{j:Int}
theorem FG{i:Int}(h:¬i < j):L4 (.p (.int i)) (.p (.int j))=some (bC false):=congrArg (λb=>some (bC b)) (dF h)
theorem K0{i:Int}(h:¬j < i):Nr (.p (.int i)) (.p (.int j))=some (bC false):=congrArg (λb=>some (bC b)) (dF h)
theorem WA{i:Int}(h:i<=j):L8 (.p (.int i)) (.p (.int j))=some (bC true):=congrArg (λb=>some (bC b)) (dZ h)
theorem JP{i:Int}(h:i < j):L4 (.p (.int i)) (.p (.int j))=some (bC true):=congrArg (λb=>some (bC b)) (dZ h)
theorem bJ{i:Int}(h:j<=i):Zu (.p (.int i)) (.p (.int j))=some (bC true):=congrArg (λb=>some (bC b)) (dZ h)
theorem Bf(h:Ah x=true):cN (k + 1) 6 [.p (.str x)]= .ok (bC true):=by
 rintro⟨h1,h2,h3⟩:P4 h;have hl:=len_str (x:=x) (by lia);exact ce (gF 5 rfl) (Ag (GY (bb (d1 rfl rfl))) (Ag (CV (bb (d2 (d1 rfl hl) rfl (FG (by lia)))) (bb (d2 (d1 rfl hl) rfl (K0 (by lia))))) (Ax (I8 rfl (by lia) h3) rfl)))
end
inductive Lf where
 |nm (n:Str)|op (i:Nat)
inductive Kd where
 |op (i:Nat)|mk (n:Str)(as:List Lf)
def Lf.k:Lf->Kd
 |.nm n=>.mk n []
 |.op i=>.op i
def Lf.p:Lf->P
 |.nm n=>.tup [.str n]
 |.op i=>.int i
def Kd.p:Kd->P
 |.op i=>.int i
 |.mk n as=>.tup (.str n::as.map Lf.p)
def Kd.parts:Kd->List Kd
 |.op _=>[]
 |.mk _ as=>as.map Lf.k
def Kd.w(k:Kd):List Kd:=k::k.parts
def Lf.ok:Lf->Prop
 |.nm n=>Ah n=true
 |.op _=>True
def Kd.ok:Kd->Prop
 |.op _=>True
 |.mk n as=>Ah n=true/\as.length<=3/\∀a∈as,a.ok
theorem Zi(l:Lf):l.k.p=l.p:=by cases l<;>rfl
theorem Us(as:List Lf):(as.map Lf.k).map Kd.p=as.map Lf.p:=by rw[map_map];exact map_congr_left λl _=>Zi l
theorem Ut{l:Lf}(h:l.ok):l.k.ok:=by
 cases l with
 |nm n=>exact#[h,by decide,λa ha=>by cases ha]
 |op i=>trivial
theorem Sx(l:Lf):l.k.w=[l.k]:=by cases l<;>rfl
def Kd.sz(k:Kd):Nat:=k.w.length
theorem Av(ps:List P):AD (.p (.tup ps))=some (.p (.int ps.length)):=rfl
theorem AA{c:C}{ps:List P}{i:Nat}{x:P}(hc:(c.seq? <|> c.Ku)=some ps)(h:ps[i]? =some x):Ae c (.p (.int i))=some (.p x):=by
 show((c.seq? <|> c.Ku).bind λps=>(II ps.length (i:Int)).bind λk=>(ps[k]?).map C.p)=_;rw[hc];have hi:=(List.getElem?_eq_some_iff.mp h).1;show((II ps.length (i:Int)).bind λk=>(ps[k]?).map C.p)=_;unfold II;rw[iP (by lia),iP (by lia),Option.bind_some,Int.toNat_natCast,h];rfl
section
variable{k:Nat}{n:Str}{as:List Lf}{i:Nat}
theorem GA{i:Int}:cN (k+1) 7 [.p (.int i)]= .ok (bC true):=ce (gF 6 rfl) (Ax (E7 (d1 rfl rfl) (dM (d1 rfl rfl))) rfl)
theorem SN:cN (k+2) 8 [.p (.int (i:Nat))]= .ok (bC true):=ce (gF 7 rfl) (Ax (E7 (BL rfl GA) #[bJ (by lia)]) rfl)
theorem Wx:cN (k+2) 9 [.p (.int (i:Nat))]= .ok (bC false):=ce (gF 8 rfl) (wit (dk (bb (d1 rfl rfl))) (Ax rfl rfl))
theorem Ww(h:Ah n=true)(hl:as.length<=3):cN (k + 2) 9 [.p (Kd.mk n as).p]= .ok (bC true):=
 ce (gF 8 rfl) (Ag (GY (bb (d1 rfl rfl))) (Ag (CV (bb (d2 (d1 rfl (Av _)) rfl (FG (by simp;lia)))) (bb (d2 (d1 rfl (Av _)) #[rfl] (K0 (by simp;lia))))) (Ax (BL #[#[0]] (Bf h)) rfl)))
theorem Om{x:P}{ps:List P}:M1 (.p (.tup (x::ps))) (.p (.int 1))=some (.p (.tup ps)):=by
 show some (C.p (.tup (((x::ps).drop (min 1 (ps.length+1))).take ((ps.length+1)-min 1 (ps.length+1)))))=_;rw[Nat.min_eq_left (by lia),drop_one,List.tail_cons,take_of_length_le (by lia)]
theorem O7(k:Kd):1<=k.sz:=by unfold Kd.sz Kd.w;simp
def Dl(ks:List Kd):Nat:=(ks.map Kd.sz).sum
theorem FU(a b:List Kd):Dl (a++b)=Dl a+Dl b:=by simp[Dl]
theorem Ho(k:Kd):Dl k.parts + 1=k.sz:=by
 cases k with
 |op i=>rfl
 |mk n as=>
   show Dl (as.map Lf.k)+1=(as.map Lf.k).length+1
   have:∀as:List Lf,Dl (as.map Lf.k)=as.length:=λas=>by
    induction as with
    |nil=>rfl
    |cons a as ih=>rw[map_cons,show Dl (a.k::as.map Lf.k)=a.k.sz+Dl (as.map Lf.k)from by simp[Dl],ih,Kd.sz,Sx];simp;lia
   rw[this,lM]
theorem JH{k:Kd}(h:k.ok):∀x∈k.parts,x.ok:=by
 cases k with
 |op i=>intro x hx;cases hx
 |mk n as=>intro x hx;rintro⟨l,hl,rfl⟩:mem_map.mp hx;exact Ut (h.2.2 l hl)
theorem snoc{α:Type}{l:List α}(h:l≠[]):∃a x,l=a++[x]:=#[l.dropLast,l.getLast h,(List.dropLast_concat_getLast h).symm]
theorem SO{x:Kd}(h:x.ok):cN (k + 3) 10 [.p x.p]= .ok (bC true):=by
 have h24:x.sz<=4:=by
  cases x with
  |op i=>exact(by decide:1<=4)
  |mk n as=>have:=h.2.1;simp[Kd.sz,Kd.w,Kd.parts];lia
 refine ce (gF 9 rfl) (Am (dl (fz rfl rfl)) (Am rfl (ZU (λm U=>∃(ks:List Kd) (c:Nat) (y:Option C),U=[sP x.p,sL true (ks.map Kd.p),sI c,y]/\(∀z∈ks,z.ok)/\c+m<=4/\m=Dl ks) (n:=x.sz) #[[x],0,none,rfl,λz hz=>by rw[mE hz];exact h,by lia,by simp[Dl]] ?_)))
 rintro m _ ⟨ks,c,y,rfl,ho,hc,rfl⟩
 by_cases hk:ks=[]
 .subst hk;exact .inl #[bv rfl,Ax rfl rfl]
 .obtain⟨ks,z,rfl⟩:=snoc hk;have hz:=ho z (by simp);have hs:Dl (ks++[z])=Dl ks+z.sz:=by simp[Dl]
  have hp:=Ho z;refine .inr #[bv (c:=.lst false ((ks++[z]).map Kd.p)) rfl (by simp[FE]),Am #[show Ad _ _=some (.p (.int ((c+1:Nat):Int)))from rfl] (Ag (bb #[K0 (by lia)]) (ZV #[] (ps:=ks.map Kd.p) (p:=z.p) ?_ (by rw[<-map_singleton (f:=Kd.p),<-map_append];rfl)))];cases z with
  |op i=>exact XT (bb (BL rfl Wx)) (Ag (GY (bb (BL rfl SN))) #[Dl ks,by lia,ks,c+1,_,rfl,λz hz=>ho z (by simp[hz]),by lia,rfl])
  |mk n as=>
    have hl:=hz.2.1;refine wit (bb (BL rfl (Ww hz.1 hz.2.1))) (Xu (ps:=ks.map Kd.p) #[Om] rfl ?_ #[Dl (ks++as.map Lf.k),?_,ks++as.map Lf.k,c+1,sP (Kd.mk n as).p,?_,λz hz'=>?_,?_,rfl])
    .have:ks.length<=Dl ks:=by
      clear hs ho hk hc
      induction ks with
      |nil=>exact Nat.zero_le _
      |cons a l ih=>have:=O7 a;simp[Dl]at ih ⊢;lia
     simp;lia
    .rw[FU];rw[hs];simp only[Kd.parts]at hp;lia
    .rw[map_append (l₁:=ks) (l₂:=as.map Lf.k),Us];rfl
    .rcases mZ hz' with w|w
     .exact ho z (by simp[w])
     .exact JH hz z w
    .rw[FU];rw[hs]at hc;simp only[Kd.parts]at hp;lia
end
section
variable{k:Nat}
theorem US(ks:List Kd):ks.length<=Dl ks:=by
 induction ks with
 |nil=>exact Nat.zero_le _
 |cons a l ih=>have:=O7 a;simp[Dl]at ih ⊢;lia
theorem LX{x:Kd}(h:x.ok):x.sz<=4:=by
 cases x with
 |op i=>exact(by decide:1<=4)
 |mk n as=>have:=h.2.1;simp[Kd.sz,Kd.w,Kd.parts];lia
theorem within{x:Kd}(h:x.ok):cN (k + 1) 11 [.p x.p]= .ok (.lst true (x.w.map Kd.p)):=by
 have h4:=LX h;refine ce (gF 10 rfl) (Am (dl rfl) (Am (dl (fz rfl rfl)) (ZU (λm U=>∃(ws ks:List Kd) (y:Option C),U=[sP x.p,sL true (ws.map Kd.p),sL true (ks.map Kd.p),y]/\ws++ks.reverse.flatMap Kd.w=x.w/\(∀z∈ks,z.ok)/\m=Dl ks/\Dl ks<=4) (n:=x.sz) #[[],[x],none,rfl,by simp,λz hz=>by rw[mE hz];exact h,by simp[Dl],by simp[Dl];exact h4] ?_)))
 rintro m _ ⟨ws,ks,y,rfl,hw,ho,rfl,hm⟩
 have hwl:ws.length<=x.sz:=by have:=congrArg List.length hw;rw[lA]at this;show _<=x.w.length;lia
 by_cases hk:ks=[]
 .subst hk;exact .inl #[bv rfl,MK (c:=.lst true (ws.map Kd.p)) (by rw[<-hw];simp)]
 .obtain⟨ks,z,rfl⟩:=snoc hk;have hz:=ho z (by simp);have hs:Dl (ks++[z])=Dl ks+z.sz:=by simp[Dl]
  have hp:=Ho z;have hl:=US ks
  have hw2:(ws++[z])++(ks++z.parts.reverse).reverse.flatMap Kd.w=x.w:=by
   rw[<-hw]
   have e:z.parts.flatMap Kd.w=z.parts:=by
    cases z with
    |op i=>rfl
    |mk n as=>
      show(as.map Lf.k).flatMap Kd.w=as.map Lf.k;clear hz hs hp hw ho hm hk
      induction as with
      |nil=>rfl
      |cons a as ih=>simp[Sx,ih]
   simp[e,Kd.w]
  refine .inr #[bv (c:=.lst false ((ks++[z]).map Kd.p)) rfl (by simp[FE]),ZV #[] (ps:=ks.map Kd.p) (p:=z.p) (Jh (ps:=ws.map Kd.p) (p:=z.p) rfl (by rw[lM];lia) ?_) (by rw[<-map_singleton (f:=Kd.p),<-map_append];rfl)];cases z with
  |op i=>exact Ag (bb (d1 rfl rfl)) #[Dl ks,by lia,ws++[.op i],ks,sP (Kd.op i).p,by rw[map_append (l₁:=ws)];rfl,by simpa[Kd.parts]using hw2,λz hz=>ho z (by simp[hz]),rfl,by lia]
  |mk n as=>
    have e1:(as.map Lf.p).reverse=((as.map Lf.k).reverse).map Kd.p:=by rw[List.map_reverse,Us]
    refine wit (bb (d1 rfl rfl)) (Xu (ps:=ks.map Kd.p) (d1 #[Om] rfl) rfl (by have:=hz.2.1;simp;lia) #[Dl (ks++(as.map Lf.k).reverse),?_,ws++[.mk n as],ks++(as.map Lf.k).reverse,sP (Kd.mk n as).p,?_,hw2,λz hz'=>?_,rfl,?_])
    .rw[FU,hs,show Dl (as.map Lf.k).reverse=Dl (as.map Lf.k)from by simp[Dl]];simp only[Kd.parts]at hp;lia
    .rw[map_append (l₁:=ks) (l₂:=(as.map Lf.k).reverse),<-e1,map_append (l₁:=ws)];rfl
    .rcases mZ hz' with w|w
     .exact ho z (by simp[w])
     .exact JH hz z (List.mem_reverse.mp w)
    .rw[FU,show Dl (as.map Lf.k).reverse=Dl (as.map Lf.k)from by simp[Dl]];simp only[Kd.parts]at hp;lia
theorem Qe(kvs:List (P×P))(k v:P):(dput kvs k v).map (·.1)=if k∈kvs.map (·.1)then kvs.map (·.1)else kvs.map (·.1)++[k]:=by
 by_cases h:(kvs.any λq=>decide (q.1=k))=true
 .rw[HK kvs k v h,iP];rintro⟨q,hq,e⟩:any_eq_true.mp h;exact mem_map.mpr #[q,hq,of_decide_eq_true e]
 .rw[iN,dput,iN h,map_append]
  .rfl
  .intro hm;rintro⟨q,hq,e⟩:mem_map.mp hm;exact h (any_eq_true.mpr #[q,hq,dZ e])
theorem opens{x:Kd}(h:x.ok):∃ns:List Nat,cN (k + 2) 12 [.p x.p]= .ok (.lst true (ns.map λi=>.int (i:Nat)))/\ns.length<=4/\∀i,i∈ns↔Kd.op i∈x.w:=by
 have hw:x.w.length<=4:=LX h
 obtain ⟨c,e1,ns,rfl,e2⟩:=cw (k:=k + 1) (args:=[.p x.p]) (R:=λc=>∃ns:List Nat,c= .lst true (ns.map λi=>.int (i:Nat))/\ns.length<=4/\∀i,i∈ns↔Kd.op i∈x.w) (gF 11 rfl) (by
  refine Am rfl (EI (λj U=>∃(kvs:List (P×P)) (ns:List Nat) (y:Option C),U=[sP x.p,some (.Bl true kvs),y]/\kvs.map (·.1)=ns.map (λi=>.int (i:Nat))/\ns.length<=j/\∀i,i∈ns↔Kd.op i∈x.w.take j) (BL rfl (within h)) rfl #[[],[],none,rfl,rfl,Nat.le_refl _,by simp] ?_ ?_)
  .rintro j y hy _ ⟨kvs,ns,z,rfl,hk,hl,hn⟩
   rw[List.getElem?_map]at hy;rintro⟨d,hd,rfl⟩:oM hy;have tk:x.w.take (j+1)=x.w.take j++[d]:=by rw[take_add_one,hd];rfl
   have hj:=(List.getElem?_eq_some_iff.mp hd).1;refine#[_,rfl,?_];cases d with
   |mk n as=>exact Ag (bb (d1 rfl rfl)) #[kvs,ns,_,rfl,hk,by lia,λi=>by rw[hn,tk];simp]
   |op i=>
     have kl:kvs.length=ns.length:=by have:=congrArg List.length hk;simpa using this
     have By:Bk kvs (.int (i:Nat))=true:=by
      show(true && kvs.all λq=>q.1.tag == 2)=true;rw[Bool.true_and,all_eq_true];intro q hq;have:q.1∈kvs.map (·.1):=mem_map_of_mem hq;rw[hk]at this;rintro⟨i,_,e⟩:mem_map.mp this;rw[<-e];rfl
     refine wit (bb (d1 rfl rfl)) (au (kvs:=kvs) rfl rfl By (by lia) ?_)
     by_cases hm:i∈ns
     .refine#[_,ns,_,rfl,?_,by lia,λl=>?_]
      .rw[Qe,hk,iP (show(Kd.op i).p∈_ from mem_map.mpr #[i,hm,rfl])]
      .rw[hn l,tk];have:=(hn i).mp hm;simp;intro e;subst e;exact this
     .refine#[_,ns++[i],_,rfl,?_,by simp;lia,λl=>?_]
      .rw[Qe,hk,iN,map_append]
       .rfl
       .intro z;rintro⟨l,hl,e⟩:mem_map.mp z;cases (show(l:Int)=i from by injection e);exact hm hl
      .rw[tk];simp[hn l]
  .rintro _ ⟨kvs,ns,z,rfl,hk,hl,hn⟩
   rw[lM]at hl hn
   exact Ax (d1 rfl (show CP (.Bl false kvs)=some (nw (kvs.map (·.1)))from rfl)) #[ns,by rw[hk],by lia,by simpa using hn])
 exact#[ns,e1,e2]
theorem below{x:Kd}(h:x.ok){m:Int}(hm:∀i,Kd.op i∈x.w->(i:Int) < m):cN (k + 4) 24 [.p x.p,.p (.int m)]= .ok (bC true):=by
 rintro⟨ns,e,hl,hn⟩:opens (k:=k+1) h;refine ce (gF 22 rfl) (Ax (E7 (BL rfl (SO h)) (d1 (XH (λ_=>.bl true) (BL rfl e) rfl (by rw[lM];lia) λy hy=>?_) ?_)) rfl)
 .obtain⟨i,hi,rfl⟩:=mem_map.mp hy;exact#[_,rfl,_,#[JP (hm i ((hn i).mp hi))],rfl]
 .rw[map_map];exact(all_map (λ_=>true) ns).trans (by rw[show ns.all (λ_=>true)=true from all_eq_true.mpr λ_ _=>rfl])
end
theorem ae{p:P}(h:BM p q=true)(hd:p.depth<=90):X7 (.p p) (.p q)=some (decide (p=q)):=by
 show((if BM p q=true/\p.depth<=90 then some (decide (p=q))else none) <|> _)=_;rw[iP #[h,hd]];rfl
theorem eqs :X7 (.p (.str x)) (.p (.str y))=some (decide (x=y)):=by
 rw[ae rfl (Nat.zero_le _)]
 by_cases h:x=y
 .subst h;rw[dZ rfl,dZ rfl]
 .rw[dF h,dF λe=>h (by injection e)]
theorem Bc{x y:Str}(h:decide (x=y)=false:=by kernel_rfl):Bd (.p (.str x)) (.p (.str y))=some (bC false):=by unfold Bd;rw[eqs,h];rfl
theorem eqT :Bd (.p (.str x)) (.p (.str x))=some (bC true):=by unfold Bd;rw[eqs,dZ rfl];rfl
theorem neT{x y:Str}(h:decide (x=y)=false:=by kernel_rfl):Em (.p (.str x)) (.p (.str y))=some (bC true):=by unfold Em;rw[eqs,h];rfl
theorem Xy :Em (.p (.str x)) (.p (.str x))=some (bC false):=by unfold Em;rw[eqs,dZ rfl];rfl
theorem af :X7 (.p (.int i)) (.p (.int j))=some (decide (i=j)):=by
 rw[ae rfl (Nat.zero_le _)]
 by_cases h:i=j
 .subst h;rw[dZ rfl,dZ rfl]
 .rw[dF h,dF λe=>h (by injection e)]
variable{j:Int}
theorem NL{i:Int}(h:i=j):Em (.p (.int i)) (.p (.int j))=some (bC false):=by unfold Em;rw[af,dZ h];rfl
theorem K4{i:Int}(h:i=j):Bd (.p (.int i)) (.p (.int j))=some (bC true):=by unfold Bd;rw[af,dZ h];rfl
section
variable{cf:CF}{U:Env}{t u:T}{c:C}{g:Tg}{ks:Sq}{fr:List (Option Nat)}{xs:List P}
theorem ZE(e:(den cf t).v U= .ok c)(hk:ks c=some xs)(hl:xs.length<=100000)(h:∀x∈xs,∃β,Cs g x (AE fr U)=some β/\(den cf u).v β= .ok (bC true)):(den cf (.Ak Fc (.comp g ks t [] u fr))).v U= .ok (bC true):=by
 refine d1 (XH (λ_=>.bl true) e hk hl λx hx=>let⟨β,e1,e2⟩:=h x hx;#[β,e1,_,e2,rfl]) ?_;exact(all_map (λ_=>true) xs).trans (by rw[show xs.all (λ_=>true)=true from all_eq_true.mpr λ_ _=>rfl])
theorem any_map(l:List P)(f:P->Bool):anyC (.lst true (l.map λx=>P.bl (f x)))=some (bC (l.any f)):=by
 show((Cv MP (l.map λx=>P.bl (f x))).map λbs=>bC (bs.any id))=_
 have:Cv MP (l.map λx=>P.bl (f x))=some (l.map f):=by
  induction l with
  |nil=>rfl
  |cons a l ih=>show(some (f a)).bind _=_;rw[Option.bind_some,ih];rfl
 rw[this,Option.map_some,List.any_map];rfl
theorem ag(e:(den cf t).v U= .ok c)(hk:ks c=some xs)(hl:xs.length<=100000)(h:∀x∈xs,∃β,Cs g x (AE fr U)=some β/\(den cf u).v β= .ok (bC false)):(den cf (.Ak anyC (.comp g ks t [] u fr))).v U= .ok (bC false):=by
 refine d1 (XH (λ_=>.bl false) e hk hl λx hx=>let⟨β,e1,e2⟩:=h x hx;#[β,e1,_,e2,rfl]) ?_;exact(any_map xs λ_=>false).trans (by rw[show xs.any (λ_=>false)=false from by simp])
end
section
variable{k:Nat}{x:Str}
theorem Er(h:DU x=true):cN (k + 1) 13 [.p (.str x)]= .ok (bC true):=by
 unfold DU at h;split at h
 .cases h
 .rename_i c l hx;simp only[great,bA,decide_eq_true_eq]at h;rintro⟨⟨⟨h1,h2⟩,h3⟩,h4⟩:h;have hn:x.cps.toList.length=l.length+1:=by rw[hx];rfl
  have hl:=len_str (x:=x) (by lia)
  have ht:(C.p (.str x)).Ku =some (sign c::l.map sign):=by
   show(if x.length<=big then some (signs x)else none)=_;rw[iP (show x.length<=big from(by simp[Str.length]at hn ⊢;lia:x.length<=100000))];unfold signs;rw[hx];rfl
  have e1:M1 (.p (.str x)) (.p (.int 1))=some (.p (.str (sT l))):=by
   show cT (some 1) none (.p (.str x))=_;show(if(true && true)=true/\x.length<=big then some (C.p (.str ⟨(cut x.cps.toList (some 1) none).toArray⟩))else none)=_;rw[iP #[rfl,show x.length<=big from(by simp[Str.length]at hn ⊢;lia:x.length<=100000)],hx];show some (C.p (.str (sT (((c::l).drop (min 1 (l.length+1))).take ((l.length+1)-min 1 (l.length+1))))))=_;rw[Nat.min_eq_left (by lia),drop_one,List.tail_cons,take_of_length_le (by lia)]
  refine ce (gF 12 rfl) (Ag (GY (bb (d1 rfl rfl))) (Ag (CV (bb (d2 (d1 rfl hl) rfl (FG (by lia)))) (bb (d2 (d1 rfl hl) rfl (K0 (by lia))))) (Ax (c:=bC true) (E7 ?_ (I8 (x:=sT l) #[e1] (by simp;lia) (by simpa using h4))) rfl)));have:=bQ (cf:=cN k) (t:={"A"}) (u:=.A1 Ae {0} {0,0}) (v:={"Z"}) (U:=[sS x]) rfl #[AA (i:=0) (ps:=sign c::l.map sign) ht rfl] rfl (FZ 65 c) (FZ c 90);rw[dZ h1,dZ h2]at this;exact this
theorem Lc{ps:List P}(h:ps.length<=3):cN (k+1) 15 [.p (.tup ps)]= .ok (bC true):=ce (gF 14 rfl) (Ax (E7 (d1 rfl rfl) (d2 (d1 rfl (Av ps)) rfl (WA (by lia)))) rfl)
theorem Lp{ps:List P}{f:Nat}{cs:List P}(h:ps.length<=3)(hf:∀x∈ps,cN (k + 1) f (.p x::cs.map .p)= .ok (bC true)):cN (k + 2) 16 [.p (.tup ps),.p (.fn f cs)]= .ok (bC true):=
 ce (gF 15 rfl) (Ax (E7 (BL rfl (Lc h)) (ZE rfl rfl (by lia) λx hx=>#[_,rfl,di rfl (ar rfl rfl) (hf x hx)])) rfl)
theorem HH{l:List Str}(h:l.length<=3)(hn:∀x∈l,Ah x=true):cN (k + 2) 16 [.p (.tup (l.map P.str)),.p (.fn 6 [])]= .ok (bC true):=
 Lp (by simpa using h) λx hx=>by rintro⟨y,hy,rfl⟩:mem_map.mp hx;exact Bf (hn y hy)
theorem Hw:∀{l:List Str},l.Nodup->AN l=l.length
 |[],_=>rfl
 | x::l,h=>by
   rw[nodup_cons]at h;show(if l.contains x then AN l else AN l+1)=_;rw[iN (by simpa using h.1),Hw h.2];rfl
theorem Oe:∀l:List Str,Cv P.BN (l.map P.str)=some l
 |[]=>rfl
 |x::l=>by show(some x).bind _=_;rw[Option.bind_some,Oe l];rfl
theorem unlike{l:List Str}(h:l.length<=3)(hn:∀x∈l,Ah x=true)(hd:l.Nodup):cN (k + 3) 17 [.p (.tup (l.map P.str))]= .ok (bC true):=by
 refine ce (gF 16 rfl) (Ax (E7 (EB rfl rfl (HH h hn)) (d2 (d1 rfl ?_) (d1 rfl (Av _)) (K4 rfl))) rfl);show((Cv P.BN (l.map P.str)).bind λxs=>if xs.length < 4000 then some (C.p (.int (AN xs)))else none)=_;rw[Oe,Option.bind_some,iP (by lia),Hw hd,lM]
theorem OW{ps:List P}(h:1<=ps.length)(h2:ps.length<=4):cN (k+1) 18 [.p (.tup ps)]= .ok (bC true):=ce (gF 17 rfl) (Ax (E7 (d1 rfl rfl) (bQ (a:=true) (b:=true) rfl (d1 rfl (Av ps)) rfl (WA (by lia)) (WA (by lia)))) rfl)
theorem Dy{ps:List P}:cN (k + 1) 19 [.p (.tup (.str s::ps))]= .ok (bC true):=
 ce (gF 18 rfl) (Ax (E7 (d1 rfl rfl) (E7 (d2 (d1 rfl (Av _)) rfl (congrArg (λb=>some (bC b)) (dZ (by simp)))) (d1 #[#[0]] rfl))) rfl)
end
inductive Ex where
 |num (i:Int)|Ln (f:Str)|call (d:Str)|name (n:Str)
abbrev Z8(i:Int):P:=.tup [.str "number",.int i]
def Ex.p:Ex->P
 |.num i=>Z8 i
 |.Ln f=>.tup [.str "form",.str f,.tup []]
 |.call d=>.tup [.str "call",.str d,.tup [Z8 1]]
 |.name n=>.tup [.str "name",.str n]
def Ex.ok:Ex->Prop
 |.num i=>-10 ^ 60 < i/\i < 10 ^ 60
 |.Ln f=>DU f=true
 |.call d=>Ah d=true
 |.name n=>Ah n=true
inductive Row where
 |kind (n:Str)(m:Nat)(fs:List (Str×List Kd))|cls (n:Str)(l:List Str)|Ba (n c:Str)(ks:List Kd)(r:Kd)|Af (c q:Str)(l:List (Option Str))
 |once (d:Str)(n:Nat)(e:Ex)|CS (c q d:Str)(n:Nat)(e:Ex)|ask (e:Ex)
def Jj(n:Nat):List Str:=(["u","v","w"]:List Str).take n
def oP:Option Str->P
 |some x=>.str x
 |none=>.AG
def fP(f:Str×List Kd):P:=.tup [.str f.1,.tup (f.2.map Kd.p)]
noncomputable def Row.p:Row->P
 |.kind n m fs=>.tup [.str "kind",.str n,.int m,.tup (fs.map fP)]
 |.cls n l=>.tup [.str "class",.str n,.tup (l.map P.str)]
 |.Ba n c ks r=>.tup [.str "deed",.str n,.str c,.tup (ks.map Kd.p),r.p]
 |.Af c q l=>.tup [.str "house",.str c,.str q,.tup (l.map oP)]
 |.once d n e=>.tup [.str "once",.str d,.tup ((Jj n).map P.str),e.p]
 |.CS c q d n e=>.tup [.str "does",.str c,.str q,.str d,.tup ((Jj n).map P.str),e.p]
 |.ask e=>.tup [.str "ask",e.p]
def Kd.lt(m:Nat)(k:Kd):Prop:=k.ok/\∀i,Kd.op i∈k.w->i < m
noncomputable def Row.ok:Row->Prop
 |.kind n m fs=>Ah n=true/\m<=3/\1<=fs.length/\fs.length<=4/\∀f∈fs,DU f.1=true/\f.2.length<=3/\∀k∈f.2,k.lt m
 |.cls n l=>Ah n=true/\l.length<=3/\∀e∈l,Ah e=true
 |.Ba n c ks r=>Ah n=true/\Ah c=true/\ks.length<=3/\(∀k∈ks,k.lt 1)/\r.lt 1
 |.Af c q l=>Ah c=true/\Ah q=true/\l.length<=3/\∀e,some e∈l->Ah e=true
 |.once d _ e=>Ah d=true/\e.ok
 |.CS c q d _ e=>Ah c=true/\Ah q=true/\Ah d=true/\e.ok
 |.ask e=>e.ok
section
variable{k:Nat}
theorem Wl(h:(Ex.num i).ok):cN (k + 2) 14 [.p (.int i)]= .ok (bC true):=by
 refine ce (gF 13 rfl) (Ax (E7 (BL rfl GA) (d2 (d1 rfl (show Hc TJ (.p (.int i))=some (.p (.int (if i < 0 then -i else i)))from rfl)) #[show Aw JF (.p (.int 10)) (.p (.int 60))=some (.p (.int (10 ^ 60)))from rfl] (JP ?_))) rfl);have:=h.1;have:=h.2;split<;>lia
theorem Sj{e:Ex}(h:e.ok):cN (k + 3) 21 [.p e.p]= .ok (bC true):=by
 cases e with
 |num i=>exact ce (gF 19 rfl) (Ag (GY (bb (BL rfl Dy))) (Am #[#[0]] (wit (bb #[eqT]) (Ax (E7 (d2 (d1 rfl (Av _)) rfl (K4 rfl)) (BL #[#[1]] (Wl h))) rfl))))
 |name n=>exact ce (gF 19 rfl) (Ag (GY (bb (BL rfl Dy))) (Am #[#[0]] (Ag (bb #[Bc]) (wit (bb #[eqT]) (Ax (E7 (d2 (d1 rfl (Av _)) rfl (K4 rfl)) (BL #[#[1]] (Bf h))) rfl)))))
 |Ln n=>exact ce (gF 19 rfl) (Ag (GY (bb (BL rfl Dy))) (Am #[#[0]] (Ag (bb #[Bc]) (Ag (bb #[Bc]) (Ag (bb (d2 (d1 rfl (Av _)) rfl (NL rfl))) (wit (bb #[eqT]) (Ax (E7 (BL #[#[1]] (Er h)) (BL #[#[2]] (Lc #[]))) rfl)))))))
 |call n=>exact ce (gF 19 rfl) (Ag (GY (bb (BL rfl Dy))) (Am #[#[0]] (Ag (bb #[Bc]) (Ag (bb #[Bc]) (Ag (bb (d2 (d1 rfl (Av _)) rfl (NL rfl))) (Ag (bb #[Bc]) (wit (bb #[eqT]) (Ax (E7 (BL #[#[1]] (Bf h)) (BL #[#[2]] (Lc #[]))) rfl))))))))
def Ex.parts:Ex->List Ex
 |.call _=>[.num 1]
 |_=>[]
theorem N4(e:Ex):cN (k + 1) 22 [.p e.p]= .ok (.lst true (e.parts.map Ex.p)):=by
 cases e with
 |num i=>exact ce (gF 20 rfl) (Ag (CV (bb (d2 #[#[0]] rfl Bc)) (bb (d2 #[#[0]] rfl Bc))) (Ag (bb (d2 #[#[0]] rfl Bc)) (Ax (dl rfl) rfl)))
 |name i=>exact ce (gF 20 rfl) (Ag (CV (bb (d2 #[#[0]] rfl Bc)) (bb (d2 #[#[0]] rfl Bc))) (Ag (bb (d2 #[#[0]] rfl Bc)) (Ax (dl rfl) rfl)))
 |Ln i=>exact ce (gF 20 rfl) (wit (Qu (bb (d2 #[#[0]] rfl eqT))) (Ax (d1 #[#[2]] rfl) rfl))
 |call i=>exact ce (gF 20 rfl) (wit (CV (bb (d2 #[#[0]] rfl Bc)) (bb (d2 #[#[0]] rfl eqT))) (Ax (d1 #[#[2]] rfl) rfl))
theorem Si:(Ex.num 1).ok:=#[by decide,by decide]
def wP(q:Ex×Nat):P:=.tup [q.1.p,.int q.2]
theorem IX{e:Ex}(h:e.ok):cN (k + 4) 23 [.p e.p]= .ok (bC true):=by
 refine ce (gF 21 rfl) (Am (dl (fz (dt (fz rfl (fz rfl rfl))) rfl)) (Am rfl (ZU (λm U=>∃(ws:List (Ex×Nat)) (c:Nat) (y z u:Option C),U=[sP e.p,sL true (ws.map wP),sI c,y,z,u]/\(∀q∈ws,q.1.ok/\q.2<=1/\(q.2=1->q.1.parts=[]))/\m=2-c/\(ws=[]\/(ws.length=1/\c<=1/\∀q∈ws,q.2=c))) (n:=2) #[[(e,0)],0,none,none,none,rfl,λq hq=>by rw[mE hq];exact#[h,Nat.zero_le _,λz=>by cases z],rfl,.inr #[rfl,by decide,λq hq=>by rw[mE hq]]] ?_)))
 rintro m _ ⟨ws,c,y,z,u,rfl,ho,rfl,hc⟩
 rcases hc with rfl|⟨h1,h2,h3⟩
 .exact .inl #[bv rfl,Ax rfl rfl]
 .obtain⟨⟨x,a⟩,rfl⟩:=List.length_eq_one_iff.mp h1;rintro⟨o1,o2,o3⟩:ho (x,a) (by simp);cases (show a=c from h3 (x,a) (by simp));refine .inr #[bv (c:=.lst false [wP (x,c)]) rfl,Am #[show Ad (.p (.int c)) (.p (.int 1))=some (.p (.int ((c+1:Nat):Int)))from rfl] (ZV #[] (ps:=[]) (p:=wP (x,c)) (Am #[AA (i:=0) (ps:=[x.p,.int c]) rfl rfl] (Am #[AA (i:=1) (ps:=[x.p,.int c]) rfl rfl] (Ag (CV (bb #[K0 (i:=((c+1:Nat):Int)) (j:=40) (by lia)]) (CV (bb #[K0 (i:=(c:Int)) (j:=11) (by lia)]) (GY (bb (BL rfl (Sj o1)))))) (Xu (ps:=[]) (XH (λy=>.tup [y,.int ((c+1:Nat):Int)]) (BL rfl (N4 x)) rfl (by cases x<;>exact Nat.le_of_ble_eq_true rfl) λy hy=>#[_,rfl,_,dt (fz rfl (fz #[rfl] rfl)),rfl]) rfl (by cases x<;>exact Nat.le_of_ble_eq_true rfl) #[2-(c+1),by lia,x.parts.map λy=>(y,c+1),c+1,sP (wP (x,c)),sP x.p,sI c,?_,?_,rfl,?_])))) rfl)]
  .rw[map_map,map_map];rfl
  .intro q hq;rintro⟨y,hy,rfl⟩:mem_map.mp hq;cases x with
   |call d=>
     cases mE hy;rcases Nat.eq_zero_or_pos c with rfl|hc
     .exact#[Si,Nat.le_refl _,λ_=>rfl]
     .cases (o3 (show c=1 by lia))
   |_=>cases hy
  .cases x with
   |call d=>
     rcases Nat.eq_zero_or_pos c with rfl|ha
     .exact .inr #[rfl,by decide,λq hq=>by rw[mE hq]]
     .cases (o3 (show c=1 by lia))
   |_=>exact .inl rfl
end
section
variable{k:Nat}
theorem fe{cf:CF}{f l:Nat}{EK:List Nat}{ps:List P}{b:Bool}(e:(den cf t).v U= .ok x)(hc:NB U EK=some ps)(h:cf f [x,.p (.fn l ps)]= .ok (bC b)):(den cf (.Kf f t l EK)).v U= .ok (bC b):=by
 show((den cf t).v U).bind (λx=>(Res.of (NB U EK)).bind λps=>(cf f [x,.p (.fn l ps)]).bind λc=>(Res.of c.EL).bind λb=>.ok (C.p (.bl b)))=_;rw[e,hc];show(cf f [x,.p (.fn l ps)]).bind _=_;rw[h];rfl
theorem HI{ks:List Kd}{m:Nat}(h:ks.length<=3)(hk:∀x∈ks,x.lt m):cN (k + 7) 25 [.p (.tup (ks.map Kd.p)),.p (.int m)]= .ok (bC true):=
 ce (gF 23 rfl) (Ax (fe (ps:=[.int m]) rfl rfl (Lp (by simpa using h) λx hx=>by
  rintro⟨y,hy,rfl⟩:mem_map.mp hx
  exact ce (gF 79 rfl) (Ax (EB rfl rfl (below (hk y hy).1 λi hi=>by exact_mod_cast (hk y hy).2 i hi)) rfl))) rfl)
theorem T1{f:Str×List Kd}{m:Nat}(h:DU f.1=true/\f.2.length<=3/\∀k∈f.2,k.lt m):cN (k + 8) 26 [.p (fP f),.p (.int m)]= .ok (bC true):=
 ce (gF 24 rfl) (Ag (CV (GY (bb (d1 rfl rfl))) (bb (d2 (d1 rfl (Av _)) rfl (NL rfl)))) (Ax (E7 (BL #[#[0]] (Er h.1)) (EB #[#[1]] rfl (HI h.2.1 h.2.2))) rfl))
theorem So{o:Option Str}(h:∀e,o=some e->Ah e=true):cN (k + 2) 29 [.p (oP o)]= .ok (bC true):=by
 cases o with
 |none=>exact ce (gF 27 rfl) (Ax (dJ #[rfl]) rfl)
 |some x=>exact ce (gF 27 rfl) (Ax (ay #[rfl] (BL rfl (Bf (h x rfl)))) rfl)
theorem Kr(n:Nat):(Jj n).length<=3/\(∀x∈Jj n,Ah x=true)/\(Jj n).Nodup:=by
 have h3:∀x∈(["u","v","w"]:List Str),Ah x=true:=by decide +kernel
 refine#[?_,λx hx=>h3 x (mem_of_mem_take hx),List.Nodup.sublist (List.take_sublist _ _) (by decide +kernel)];unfold Jj;rw[length_take];exact Nat.min_le_right _ _
theorem LP(n:Nat):cN (k+3) 17 [.p (.tup ((Jj n).map P.str))]= .ok (bC true):=let⟨a,b,c⟩:=Kr n;unlike a b c
theorem rw_hd{ps:List P}(h:WP ((k + 1)<<<(dH.drop 2)>>>[sP (.tup (.str s::ps)),sS s]) (λ_=>bC true= .p .AG) (λd=>bC true=d))(h1:Eu (.Bl false SA) (.p (.str s))=some (.p (.int n)):=by kernel_rfl)(h2:n=((ps.length + 1:Nat):Int):=by rfl):cN (k + 2) 31 [.p (.tup (.str s::ps))]= .ok (bC true):=
 ce (gF 29 rfl) (Ag (CV (GY (bb (BL rfl Dy))) (bb (d2 (d2 rfl #[#[0]] h1) (d1 rfl (Av _)) (NL h2)))) (Am #[#[0]] h))
theorem VE{r:Row}(h:r.ok):cN (k + 10) 31 [.p r.p]= .ok (bC true):=by
 cases r with
 |kind n m fs=>
   rintro⟨h1,h2,h3,h4,h5⟩:h
   exact rw_hd (wit (bb #[eqT]) (Ax (BL rfl (ce (gF 25 rfl) (Am #[#[2]] (Ag (CV (GY (bb (BL #[#[1]] (Bf h1)))) (CV (GY (bb (BL rfl GA))) (CV (bb #[FG (by lia)]) (bb #[K0 (by lia)])))) (Ax (c:=bC true) (E7 (BL #[#[3]] (OW (by simpa using h3) (by simpa using h4))) (ZE #[#[3]] rfl (by simp;lia) λx hx=>by
    rintro⟨f,hf,rfl⟩:mem_map.mp hx
    exact#[_,rfl,EB rfl rfl (T1 (h5 f hf))])) rfl))))) rfl))
 |cls n l=>exact rw_hd (Ag (bb #[Bc]) (wit (bb #[eqT]) (Ax (E7 (BL #[#[1]] (Bf h.1)) (EB #[#[2]] rfl (HH h.2.1 h.2.2))) rfl)))
 |Ba n c ks r=>
   rintro⟨h1,h2,h3,h4,h5⟩:h;exact rw_hd (Ag (bb #[Bc]) (Ag (bb #[Bc]) (wit (bb #[eqT]) (Ax (BL rfl (ce (gF 26 rfl) (Ax (E7 (BL #[#[1]] (Bf h1)) (E7 (BL #[#[2]] (Bf h2)) (E7 (EB #[#[3]] rfl (HI (m:=1) h3 h4)) (EB #[#[4]] rfl (below h5.1 λi hi=>by exact_mod_cast h5.2 i hi))))) rfl))) rfl))))
 |Af c q l=>
   rintro⟨h1,h2,h3,h4⟩:h
   exact rw_hd (Ag (bb #[Bc]) (Ag (bb #[Bc]) (Ag (bb #[Bc]) (wit (bb #[eqT]) (Ax (E7 (BL #[#[1]] (Bf h1)) (E7 (BL #[#[2]] (Bf h2)) (EB #[#[3]] rfl (Lp (by simpa using h3) λx hx=>by
    rintro⟨o,ho,rfl⟩:mem_map.mp hx
    exact So λe he=>h4 e (he▸ho))))) rfl)))))
 |ask e=>exact rw_hd (Ag (bb #[Bc]) (Ag (bb #[Bc]) (Ag (bb #[Bc]) (Ag (bb #[Bc]) (wit (bb #[eqT]) (Ax (BL #[#[1]] (IX h)) rfl))))))
 |once d n e=>exact rw_hd (Ag (bb #[Bc]) (Ag (bb #[Bc]) (Ag (bb #[Bc]) (Ag (bb #[Bc]) (Ag (bb #[Bc]) (Ax (BL rfl (ce (gF 28 rfl) (Ax (c:=bC true) (E7 (ZE (xs:=[.str d]) (d3 rfl rfl (d1 rfl rfl) rfl) rfl (Nat.le_of_ble_eq_true rfl) λx hx=>by
  cases mE hx
  exact#[_,rfl,BL rfl (Bf h.1)]) (E7 (BL (d2 rfl (d1 rfl rfl) rfl) (LP n)) (BL (d2 rfl (d1 rfl rfl) rfl) (IX h.2)))) rfl))) rfl))))))
 |CS c q d n e=>exact rw_hd (Ag (bb #[Bc]) (Ag (bb #[Bc]) (Ag (bb #[Bc]) (Ag (bb #[Bc]) (Ag (bb #[Bc]) (Ax (BL rfl (ce (gF 28 rfl) (Ax (c:=bC true) (E7 (ZE (xs:=[.str c,.str q,.str d]) (d3 rfl rfl (d1 rfl rfl) rfl) rfl (Nat.le_of_ble_eq_true rfl) λx hx=>by
  simp only[mem_cons,not_mem_nil,or_false]at hx;rcases hx with rfl|rfl|rfl
  .exact#[_,rfl,BL rfl (Bf h.1)]
  .exact#[_,rfl,BL rfl (Bf h.2.1)]
  .exact#[_,rfl,BL rfl (Bf h.2.2.1)]) (E7 (BL (d2 rfl (d1 rfl rfl) rfl) (LP n)) (BL (d2 rfl (d1 rfl rfl) rfl) (IX h.2.2.2)))) rfl))) rfl))))))
end
theorem add_l{o o':Bool}{a b:List P}(h:(a++b).length<=100000):Ad (.lst o a) (.lst o' b)=some (.lst true (a++b)):=by
 show((if(a++b).length<=big then some (a++b)else none).map nw)=_;rw[iP (show(a++b).length<=big from h)];rfl
theorem G1{ps:List P}{i:Nat}{x:P}(h:(DV ps)[i]? =some x):∃y,ps[i]? =some y/\x= .tup [.int (i:Nat),y]:=by
 unfold DV at h;rw[List.getElem?_map,List.getElem?_zipIdx]at h;rintro⟨q,h1,rfl⟩:oM h;rintro⟨y,h2,rfl⟩:oM h1;exact#[y,h2,by simp]
variable{rs:List Row}
theorem checked{k:Nat}(h:∀r∈rs,r.ok)(hl:rs.length<=40):cN (k + 11) 32 [.lst false (rs.map Row.p)]= .ok (.lst true (rs.map Row.p)):=by
 refine ce (gF 30 rfl) (Ag (CV (GY (bb (d1 rfl rfl))) (bb (d2 (d1 rfl rfl) rfl (K0 (by simp;lia))))) (R4 (λ_ U=>∃y z,U=[sL false (rs.map Row.p),y,z]) rfl rfl #[none,none,rfl] ?_ ?_))
 .rintro j x hx _ ⟨y,z,rfl⟩
  rintro⟨w,hw,rfl⟩:G1 hx;rw[List.getElem?_map]at hw;rintro⟨r,hr,rfl⟩:oM hw;exact#[_,rfl,Ag (GY (bb (BL rfl (VE (h r (mem_of_getElem? hr)))))) #[_,_,rfl]]
 .rintro _ ⟨y,z,rfl⟩
  exact Ax (d1 rfl rfl) rfl
abbrev kP(y:List Str):P:=.tup (y.map P.str)
def told:Row->List (List Str)
 |.kind n _ fs=>["kind",n]::fs.map λf=>["form",f.1]
 |.cls n _=>[["class",n]]
 |.Ba n _ _ _=>[["function",n]]
 |.Af c q _=>[["house",c,q]]
 |.once d _ _=>[["once",d]]
 |.CS c q d _ _=>[["does",c,q,d]]
 |.ask _=>[]
section
variable{k:Nat}
theorem Ie{r:Row}(h:∀n m fs,r= .kind n m fs->fs.length<=4):cN (k + 1) 33 [.p r.p]= .ok (.lst true ((told r).map kP)):=by
 cases r with
 |kind n m fs=>
   have hl:=h n m fs rfl;refine ce (gF 31 rfl) (Am #[#[0]] (wit (bb #[eqT]) (Ax (d2 (dl (fz (dt (fz rfl (fz #[#[1]] rfl))) rfl)) (XH (xs:=fs.map fP) (λx=>.tup [.str "form",((x.CL.getD []).headD .AG)]) #[#[3]] rfl (by simp;lia) λx hx=>?_) (show Ad (.lst true [kP ["kind",n]]) (.lst true ((fs.map fP).map λx=>.tup [.str "form",((x.CL.getD []).headD .AG)]))=some (.lst true ((told (.kind n m fs)).map kP))from ?_)) rfl)))
   .obtain⟨f,hf,rfl⟩:=mem_map.mp hx;exact#[_,rfl,_,dt (fz rfl (fz #[#[0]] rfl)),rfl]
   .rw[add_l (by simp;lia),map_map];show some (nw (kP ["kind",n]::fs.map _))=some (.lst true (kP ["kind",n]::(fs.map λf=>([("form":Str),f.1]:List Str)).map kP));rw[map_map];rfl
 |cls n l=>exact ce (gF 31 rfl) (Am #[#[0]] (Ag (bb #[Bc]) (wit (bb #[eqT]) (Ax (dl (fz (dt (fz rfl (fz #[#[1]] rfl))) rfl)) rfl))))
 |Ba n c ks r=>exact ce (gF 31 rfl) (Am #[#[0]] (Ag (bb #[Bc]) (Ag (bb #[Bc]) (wit (Qu (bb #[eqT])) (Ax (dl (fz (dt (fz rfl (fz #[#[1]] rfl))) rfl)) rfl)))))
 |once d n e=>exact ce (gF 31 rfl) (Am #[#[0]] (Ag (bb #[Bc]) (Ag (bb #[Bc]) (Ag (CV (bb #[Bc]) (bb #[Bc])) (wit (bb #[eqT]) (Ax (dl (fz (dt (fz rfl (fz #[#[1]] rfl))) rfl)) rfl))))))
 |Af c q l=>exact ce (gF 31 rfl) (Am #[#[0]] (Ag (bb #[Bc]) (Ag (bb #[Bc]) (Ag (CV (bb #[Bc]) (bb #[Bc])) (Ag (bb #[Bc]) (wit (bb #[eqT]) (Ax (dl (fz (dt (fz rfl (fz #[#[1]] (fz #[#[2]] rfl)))) rfl)) rfl)))))))
 |CS c q d n e=>exact ce (gF 31 rfl) (Am #[#[0]] (Ag (bb #[Bc]) (Ag (bb #[Bc]) (Ag (CV (bb #[Bc]) (bb #[Bc])) (Ag (bb #[Bc]) (Ag (bb #[Bc]) (wit (bb #[eqT]) (Ax (dl (fz (dt (fz rfl (fz #[#[1]] (fz #[#[2]] (fz #[#[3]] rfl))))) rfl)) rfl))))))))
 |ask e=>exact ce (gF 31 rfl) (Am #[#[0]] (Ag (bb #[Bc]) (Ag (bb #[Bc]) (Ag (CV (bb #[Bc]) (bb #[Bc])) (Ag (bb #[Bc]) (Ag (bb #[Bc]) (Ag (bb #[Bc]) (Ax (dl rfl) rfl))))))))
end
theorem PF{a b:List Str}(h:kP a=kP b):a=b:=by
 have h:a.map P.str=b.map P.str:=by injection h
 exact List.map_inj_right (λx y e=>by injection e) |>.mp h
structure Do(L:List (List Str×P))(kvs:List (P×P)):Prop where
 g:∀y,CT kvs (kP y)=L.lookup y
 t:∀q∈kvs,q.1.tag=4
 l:kvs.length<=L.length
theorem Ly:Do [] []:=#[λ_=>rfl,λq h=>(by cases h),Nat.le_refl _]
variable{L:List (List Str×P)}
theorem Do.By{kvs:List (P×P)}(d:Do L kvs)(y:List Str):Bk kvs (kP y)=true:=by
 unfold Bk;rw[bA,all_eq_true];refine#[?_,λq hq=>by rw[d.t q hq];rfl];show(y.map P.str).all (λp=>p.tag == 3)=true;rw[all_eq_true];intro p hp;rintro⟨s,_,rfl⟩:mem_map.mp hp;rfl
theorem Q6(kvs:List (P×P))(k v k':P):(kvs.map λq=>if q.1=k then(q.1,v)else q).find? (λq=>decide (q.1=k'))=(kvs.find? λq=>decide (q.1=k')).map λq=>if q.1=k then(q.1,v)else q:=by
 rw[List.find?_map]
 congr 1
 congr 1
 funext q
 show decide ((if q.1=k then(q.1,v)else q).1=k')=_;split<;>rfl
theorem Qf(kvs:List (P×P))(k v k':P):CT (dput kvs k v) k'=if k'=k then some v else CT kvs k':=by
 unfold CT dput
 by_cases h:(kvs.any λq=>decide (q.1=k))=true
 .rw [iP h,Q6];cases e:kvs.find? λq=>decide (q.1=k')with
  |none=>
    rw[iN]
    .rfl
    .intro z;subst z;rintro⟨q,hq,e1⟩:any_eq_true.mp h;exact absurd e1 (by simpa using List.find?_eq_none.mp e q hq)
  |some q=>
    have e1:q.1=k':=of_decide_eq_true (List.find?_some (p:=λq:P×P=>decide (q.1=k')) e)
    by_cases h2:k'=k
    .rw[iP h2];show some (if q.1=k then(q.1,v)else q).2=_;rw[iP (e1.trans h2)]
    .rw[iN h2];show some (if q.1=k then(q.1,v)else q).2=_;rw[iN λz=>h2 (e1.symm.trans z)];rfl
 .rw[iN h,List.find?_append]
  by_cases h2:k'=k
  .subst h2;rw[iP rfl,show kvs.find? (λq=>decide (q.1=k'))=none from List.find?_eq_none.mpr λq hq z=>h (any_eq_true.mpr #[q,hq,z])];simp
  .rw[iN h2];have:([(k,v)]:List (P×P)).find? (λq=>decide (q.1=k'))=none:=List.find?_eq_none.mpr λq hq z=>h2 (by rw[mE hq]at z;exact(of_decide_eq_true z).symm)
   rw[this,Option.or_none]
theorem Nx(kvs:List (P×P))(k v:P):(dput kvs k v).length<=kvs.length+1:=GK kvs k v
theorem Do.put{kvs:List (P×P)}{y:List Str}{v:P}(d:Do L kvs)(hy:y∉L.map (·.1)):Do (L++[(y,v)]) (dput kvs (kP y) v):=by
 refine#[λz=>?_,λq hq=>?_,?_]
 .rw[Qf,List.lookup_append]
  by_cases h:z=y
  .subst h;rw[iP rfl,show L.lookup z=none from lookup_eq_none_iff.mpr λq hq=>by simpa using λe=>hy (mem_map.mpr #[q,hq,e.symm])];simp
  .rw[iN λe=>h (PF e),d.g z];have:([(y,v)]:List (List Str×P)).lookup z=none:=lookup_eq_none_iff.mpr λq hq=>by rw[mE hq];simpa using h
   rw[this,Option.or_none]
 .rcases K5 hq with⟨p,hp,e⟩|e
  .rw[e];exact d.t p hp
  .rw[e];rfl
 .have:=Nx kvs (kP y) v;have:=d.l;simp;lia
section
variable{cf:CF}{U:Env}{ts:List T}{c c':C}{cs:List C}{ss:List S}{N:Env->Prop}{R:C->Prop}
theorem cF{i f:Nat}(hg:A8 U i=some c)(hM:c.Jb=true)(e:BK cf ts U= .ok cs)(hp:cs.all C.WQ=true)(hc:cf f (c::cs)= .ok c')(hM':c'.Jb=true)(h:WP (execs cf As ss (U.set i (some c'))) N R):WP (execs cf As (.HQ i f ts::ss) U) N R:=by
 refine XS (U':=U.set i (some c')) ?_ h
 show(match A8 U i with
  |some c=>if c.Jb then(BK cf ts U).fl λcs=>if cs.all C.WQ then(cf f (c::cs)).fl λc'=>if c'.Jb then Fl.nx (U.set i (some c'))else .stuck else .stuck else .stuck
  |none=>.stuck)=_
 rw[hg,e];show(if c.Jb then(if cs.all C.WQ then(cf f (c::cs)).fl λc'=>if c'.Jb then Fl.nx (U.set i (some c'))else .stuck else .stuck)else .stuck)=_;rw[iP hM,iP hp,hc];exact iP hM'
theorem cm{f np nl k:Nat}{B:List S}{args:List C}(h:fns[f]? =some #[np,nl,true,B])(e:WP (k<<<B>>>(args.map some++List.replicate (nl - np) none)) (λU=>∃c,A8 U 0=some c/\c.own=true/\R c) (λ_=>False))(hl:args.length=np:=by rfl)(h0:(CD B).contains 0=false:=by rfl):∃c,cN (k + 1) f args= .ok c/\R c:=by
 have e1:cN (k + 1) f args=Cu (cN k) As #[np,nl,true,B] args:=by
  show(match fns[f]? with|some fi=>Cu (cN k) As fi args|none=>.stuck)=_;rw[h]
 have e2:Cu (cN k) As #[np,nl,true,B] args=match execs (cN k) As B (args.map some++List.replicate (nl - np) none)with| .nx U=>C.got (A8 U 0)|_=>.stuck:=by
  unfold Cu;rw[iP hl,iP rfl,iN (by rw[h0];exact Bool.false_ne_true)]
  all_goals rfl
 rw[e1,e2];cases eb:k<<<B>>>(args.map some++List.replicate (nl-np) none)with
 |nx U=>
   rw[eb]at e;rintro⟨c,h1,h2,h3⟩:e;refine#[c,?_,h3];show C.got (A8 U 0)=_;rw[h1];exact iP h2
 |_=>rw[eb]at e;exact e.elim
end
def own:List Row:=[.kind "whole" 0 [],.kind "truth" 0 [("No",[]),("Yes",[])]]
abbrev lo(o:Bool)(rs:List Row)(tel num:List (P×P)):C:=.obj o [.p (.box 0 (rs.map Row.p)),.d tel,.d num]
def ent(v:P)(y:List Str):List Str×P:=(y,v)
def Nw(x:Row):List (List Str×P):=(told x).map (ent x.p)
def MR(rs:List Row):List (List Str×P):=(own++rs).flatMap Nw
def El(rs:List Row):List (List Str×P):=rs.zipIdx.flatMap λq=>(told q.1).map (ent (.int (q.2:Nat)))
theorem DK(v:P)(l:List (List Str)):(l.map (ent v)).map (·.1)=l:=by rw[map_map];exact List.map_id' l
theorem F5(xs:List Row):(xs.flatMap Nw).map (·.1)=xs.flatMap told:=by
 rw[map_flatMap];exact congrArg (xs.flatMap ·) (funext λx=>DK _ _)
theorem DG(xs:List Row):((xs.zipIdx.flatMap λq=>(told q.1).map (ent (.int (q.2:Nat))))).map (·.1)=xs.flatMap told:=by
 rw[map_flatMap]
 have:∀(xs:List Row) n,((xs.zipIdx n).flatMap λq=>((told q.1).map (ent (.int (q.2:Nat)))).map (·.1))=xs.flatMap told:=by
  intro xs
  induction xs with
  |nil=>intro n;rfl
  |cons x xs ih=>intro n;rw[zipIdx_cons,flatMap_cons,flatMap_cons,ih,DK]
 exact this xs 0
section
variable{k:Nat}{rs:List Row}{tel num:List (P×P)}{L:List (List Str×P)}
theorem IZ{kvs:List (P×P)}{y:List Str}{l:List (List Str)}{j:Nat}(d:Do (L++(l.take j).map (ent v)) kvs)(hj:l[j]? =some y)(nd:(L.map (·.1)++l).Nodup):Do (L++(l.take (j + 1)).map (ent v)) (dput kvs (kP y) v):=by
 rw[take_add_one,hj,Option.toList_some,map_append,<-append_assoc];refine d.put λh=>?_
 rw[map_append,DK]at h;rcases mZ h with h|h
 .rw[nodup_append]at nd;exact nd.2.2 y h y (mem_of_getElem? hj) rfl
 .have nd2:=(nodup_append.mp nd).2.1;rw[<-take_append_drop j l,nodup_append]at nd2;exact nd2.2.2 y h y (mem_of_getElem? (i:=0) (by rw[List.getElem?_drop];simpa using hj)) rfl
theorem HE{r:Row}(hr:∀n m fs,r= .kind n m fs->fs.length<=4)(d:Do L tel)(nd:(L.map (·.1)++told r).Nodup)(hL:L.length<=1000):∃tel',Do (L++Nw r) tel'/\cN (k + 2) 70 [lo true rs tel num,.p r.p]= .ok (lo true rs tel' num):=by
 have hT:(told r).length<=5:=by
  cases r with
  |kind n m fs=>have:=hr n m fs rfl;simp[told];lia
  |_=>exact Nat.le_of_ble_eq_true rfl
 rintro⟨c,e,tel',rfl,h⟩:cm (k:=k + 1) (args:=[lo true rs tel num,.p r.p]) (R:=λc=>∃tel',c=lo true rs tel' num/\Do (L++Nw r) tel') (gF 68 rfl) (by
  refine EI (λj U=>∃tel y,U=[some (lo true rs tel num),sP r.p,y]/\Do (L++((told r).take j).map (ent r.p)) tel) (BL rfl (Ie hr)) rfl #[tel,none,rfl,by simpa using d] ?_ ?_
  .rintro j x hx _ ⟨tel,y,rfl,d⟩
   rw[List.getElem?_map]at hx;rintro⟨y,hy,rfl⟩:oM hx;have:=d.l;exact#[_,rfl,cE (kvs:=tel) rfl rfl rfl (d.By y) (by simp at this;lia) #[_,_,rfl,IZ d hy nd]]
  .rintro _ ⟨tel,y,rfl,d⟩
   rw[lM,take_length]at d
   exact#[_,rfl,rfl,tel,rfl,d])
 exact#[tel',h,e]
theorem Eb{r:Row}(h:r.ok):∀n m fs,r= .kind n m fs->fs.length<=4:=λn m fs e=>by subst e;exact h.2.2.2.1
theorem Ec{r:Row}(h:∀n m fs,r= .kind n m fs->fs.length<=4):(told r).length<=5:=by
 cases r with
 |kind n m fs=>have:=h n m fs rfl;simp[told];lia
 |_=>exact Nat.le_of_ble_eq_true rfl
theorem IT:∀{xs:List Row},(∀r∈xs,(told r).length<=5)->(xs.flatMap told).length<=5 * xs.length
 |[],_=>Nat.le_refl _
 |x::xs,h=>by have:=h x (by simp);have:=IT λr hr=>h r (mem_cons_of_mem _ hr);rw[flatMap_cons,lA,lC];lia
theorem init(hr:∀r∈rs,r.ok)(hl:rs.length<=40)(nd:((own++rs).flatMap told).Nodup)(look:∀tel num,Do (MR rs) tel->Do (El rs) num->cN (k + 11) 49 [lo false rs tel num]= .ok (.p .AG)):
 ∃tel num,Do (MR rs) tel/\Do (El rs) num/\cN (k+12) 69 [.obj true [],.lst true (rs.map Row.p)]= .ok (lo true rs tel num):=by
 have ho:∀r∈own++rs,∀n m fs,r= .kind n m fs->fs.length<=4:=λr h=>by
  rcases mZ h with h|h
  .simp only[own,mem_cons,not_mem_nil,or_false]at h;rcases h with rfl|rfl<;>(intro n m fs e;cases e;exact Nat.le_of_ble_eq_true rfl)
  .exact Eb (hr r h)
 have ndp:∀j r,(own++rs)[j]? =some r->(((own++rs).take j).flatMap told++told r).Nodup/\(((own++rs).take j).flatMap told).length<=500:=λj r hj=>by
  have hj':=List.getElem?_eq_some_iff.mp hj
  have e:own++rs=(own++rs).take j++r::(own++rs).drop (j + 1):=by
   conv=>lhs;rw[<-take_append_drop j (own++rs),drop_eq_getElem_cons hj'.1,hj'.2]
  have n2:=nd;rw[e,flatMap_append,flatMap_cons,<-append_assoc,nodup_append]at n2;refine#[n2.1,Nat.le_trans (IT λr h=>Ec (ho r (mem_of_mem_take h))) ?_];have:((own++rs).take j).length<=42:=by rw[length_take,lA];have:own.length=2:=rfl;lia
  lia
 obtain ⟨c,e,tel,num,rfl,h1,h2⟩:=cm (k:=k + 11) (args:=[.obj true [],.lst true (rs.map Row.p)]) (R:=λc=>∃tel num,c=lo true rs tel num/\Do (MR rs) tel/\Do (El rs) num) (gF 67 rfl) (by
  refine NO (ar (BL rfl (checked hr hl)) rfl) rfl (NO (ar (d1 rfl rfl) rfl) rfl (NO (ar (d1 rfl rfl) rfl) rfl (EI (xs:=own.map Row.p) (λj U=>∃tel y,U=[some (lo true rs tel []),sL true (rs.map Row.p),y,none,none]/\Do ((own.take j).flatMap Nw) tel) rfl rfl #[[],none,rfl,Ly] ?_ ?_)))
  .rintro j x hx _ ⟨tel,y,rfl,d⟩
   rw[List.getElem?_map]at hx;rintro⟨r,hj,rfl⟩:oM hx;have hj2:(own++rs)[j]? =some r:=by rw[List.getElem?_append_left (List.getElem?_eq_some_iff.mp hj).1];exact hj
   rintro⟨n1,n2⟩:ndp j r hj2;rw[List.take_append_of_le_length (Nat.le_of_lt (List.getElem?_eq_some_iff.mp hj).1),<-F5]at n1 n2;rintro⟨tel',d',e⟩:HE (k:=k+9) (rs:=rs) (num:=[]) (ho r (mem_of_getElem? hj2)) d n1 (by rw[lM]at n2;lia);refine#[_,rfl,cF rfl rfl (ar rfl rfl) rfl e rfl #[tel',_,rfl,?_]];rw[take_add_one,hj,Option.toList_some,flatMap_append,flatMap_singleton];exact d'
  .rintro _ ⟨tel,y,rfl,d⟩
   rw[lM,take_length]at d;refine EI (λj U=>∃tel num y z w,U=[some (lo true rs tel num),sL true (rs.map Row.p),y,z,w]/\Do ((own++rs.take j).flatMap Nw) tel/\Do (El (rs.take j)) num) (d1 rfl rfl) rfl #[tel,[],y,none,none,rfl,by simpa using d,Ly] ?_ ?_
   .rintro j x hx _ ⟨tel,num,y,z,w,rfl,d,dn⟩
    rintro⟨x,hx',rfl⟩:G1 hx;rw[show(0,rs.map Row.p).2=rs.map Row.p from rfl,List.getElem?_map]at hx';rintro⟨r,hj,rfl⟩:oM hx';have hj2:(own++rs)[j+2]? =some r:=hj;rintro⟨n1,n2⟩:ndp (j+2) r hj2;have n3:=n1;rw[show(own++rs).take (j+2)=own++rs.take j from rfl]at n1 n2 n3;rw[<-F5]at n1 n2;rintro⟨tel',d',e⟩:HE (k:=k+9) (rs:=rs) (num:=num) (ho r (mem_of_getElem? hj2)) d n1 (by rw[lM]at n2;lia);rw[flatMap_append,append_assoc,nodup_append]at n3;have n3:=n3.2.1;rw[<-DG]at n3;have hjl:(rs.take j).length=j:=by rw[length_take];have:=(List.getElem?_eq_some_iff.mp hj).1;lia
    refine#[_,rfl,cF rfl rfl (ar rfl rfl) rfl e rfl (EI (λi U=>∃num w,U=[some (lo true rs tel' num),sL true (rs.map Row.p),sP r.p,sI j,w]/\Do (El (rs.take j)++((told r).take i).map (ent (.int (j:Nat)))) num) (BL rfl (Ie (ho r (mem_of_getElem? hj2)))) rfl #[num,w,rfl,by simpa using dn] ?_ ?_)]
    .rintro i x hx _ ⟨num,w,rfl,dn⟩
     rw[List.getElem?_map]at hx;rintro⟨y,hy,rfl⟩:oM hx;have l1:=dn.l;have l2:=congrArg List.length (DG (rs.take j));have l3:=IT (xs:=rs.take j) λr h=>Ec (Eb (hr r (mem_of_mem_take h)))
     have l4:=Ec (ho r (mem_of_getElem? hj2));rw[lM]at l2;simp only[El,lA,lM,length_take]at l1 l2 l3;exact#[_,rfl,cE (kvs:=num) rfl rfl rfl (dn.By y) (by lia) #[_,_,rfl,IZ dn hy n3]]
    .rintro _ ⟨num,w,rfl,dn⟩
     rw[lM,take_length]at dn;refine#[tel',num,_,_,_,rfl,?_,?_]
     .rw[take_add_one,hj,Option.toList_some,<-append_assoc,flatMap_append (xs:=own++rs.take j),flatMap_singleton];exact d'
     .rw[take_add_one,hj,Option.toList_some];unfold El at dn ⊢;rw[List.zipIdx_append,flatMap_append,hjl,Nat.zero_add];simpa using dn
   .rintro _ ⟨tel,num,y,z,w,rfl,d,dn⟩
    have el:(DV (rs.map Row.p)).length=rs.length:=by simp[DV]
    rw[el,take_length]at d dn;refine XS (s:=.expr _) (U':=[some (lo true rs tel num),sL true (rs.map Row.p),y,z,w]) ?_ #[_,rfl,rfl,tel,num,rfl,d,dn];show((k+11)|||(.call 49 [{0}])&&&_).fl (λ_=>_)=_;rw[BL rfl (look tel num d dn)]
    rfl)
 exact#[tel,num,h1,h2,e]
end
theorem Gy:∀{L:List (List Str×P)} {y:List Str} {v:P},(L.map (·.1)).Nodup->(y,v)∈L->L.lookup y=some v
 | (z,w)::L,y,v,nd,h=>by
   rw[map_cons,nodup_cons]at nd;rcases mem_cons.mp h with h|h
   .cases h;simp
   .rw[lookup_cons,show(y == z)=false from beq_eq_false_iff_ne.mpr λe=>nd.1 (e▸mem_map.mpr #[_,h,rfl])];exact Gy nd.2 h
theorem GF{kvs:List (P×P)}{y:List Str}(d:Do L kvs):Eu (.Bl false kvs) (.p (kP y))=some (.p ((L.lookup y).getD .AG)):=by
 show(if Bk kvs (kP y)then some (C.p ((CT kvs (kP y)).getD .AG))else none)=_;rw[iP (d.By y),d.g]
structure Lr(rs:List Row)(tel num:List (P×P)):Prop where
 dt:Do (MR rs) tel
 dn:Do (El rs) num
 nd:((own++rs).flatMap told).Nodup
 ok:∀r∈rs,r.ok
 hl:rs.length<=40
variable{cf:CF}
theorem Qi{c:C}{tg:Tg}{ks:Sq}{cond:List T}{fr:List (Option Nat)}(g:α->P)(l:List α)(p:α->Bool)(f:α->P)(e:(den cf t).v U= .ok c)(hk:ks c=some (l.map g))(hl:l.length<=100000)
 (h:∀a∈l,∃β,Cs tg (g a) (AE fr U)=some β/\FP cf cond β= .ok (p a)/\(p a=true->∃c,(den cf u).v β= .ok c/\c.CK=some (f a))):(den cf (.comp tg ks t cond u fr)).v U= .ok (.lst true ((l.filter p).map f)):=by
 have key:∀l:List α,(∀a∈l,∃β,Cs tg (g a) (AE fr U)=some β/\FP cf cond β= .ok (p a)/\(p a=true->∃c,(den cf u).v β= .ok c/\c.CK=some (f a)))->C7 tg (FP cf cond) (den cf u).v (AE fr U) (l.map g)= .ok ((l.filter p).map f):=by
  intro l
  induction l with
  |nil=>intro _;rfl
  |cons a l ih=>
    intro h;rintro⟨β,e1,e2,e3⟩:h a (.head _);have ih:=ih λz hz=>h z (.tail _ hz)
    show(Res.of (Cs tg (g a) (AE fr U))).bind _=_;rw[e1];show(FP cf cond β).bind _=_;rw[e2];cases hp:p a with
    |false=>rw[List.filter_cons_of_neg (by simp[hp])];exact ih
    |true=>
      rintro⟨c,e4,e5⟩:e3 hp;rw[List.filter_cons_of_pos hp];show((den cf u).v β).bind _=_;rw[e4];show(Res.of c.CK).bind _=_;rw[e5];show(C7 tg (FP cf cond) (den cf u).v (AE fr U) (l.map g)).bind _=_;rw[ih];rfl
 show((den cf t).v U).bind (λc=>(Res.of (ks c)).bind λxs=>if xs.length<=big then(C7 tg (FP cf cond) (den cf u).v (AE fr U) xs).bind λys=>.ok (C.lst true ys)else .stuck)=_;rw[e];show(Res.of (ks c)).bind _=_;rw[hk];show(if(l.map g).length<=big then _ else _)=_;rw[iP (show _<=big from by rw[lM];exact hl),key l h];rfl
section
variable {k:Nat}{rs:List Row}{tel num:List (P×P)}(X:Lr rs tel num)
include X
theorem EN{x:Row}{y:List Str}(hx:x∈own++rs)(hy:y∈told x):(MR rs).lookup y=some x.p:=
 Gy (by unfold MR;rw[F5];exact X.nd) (mem_flatMap.mpr #[x,hx,mem_map.mpr #[y,hy,rfl]])
theorem Zb:(rs.flatMap told).Nodup:=by have:=X.nd;rw[flatMap_append,nodup_append]at this;exact this.2.1
theorem KR{x:Row}{i:Nat}{y:List Str}(hx:rs[i]? =some x)(hy:y∈told x):(El rs).lookup y=some (.int i):=
 Gy (by unfold El;rw[DG];exact Zb X) (mem_flatMap.mpr #[(x,i),mem_of_getElem? (i:=i) (by rw[List.getElem?_zipIdx,hx];simp),mem_map.mpr #[y,hy,rfl]])
theorem P1{y:List Str}(h:∀x∈rs,y∉told x):(El rs).lookup y=none:=by
 rw[lookup_eq_none_iff];intro q hq;have:q.1∈(El rs).map (·.1):=mem_map_of_mem hq;unfold El at this;rw[DG]at this;rintro⟨x,hx,hy⟩:mem_flatMap.mp this;exact bne_iff_ne.mpr λ(e:y=q.1)=>h x hx (by rw[e];exact hy)
theorem IF{m:Nat}{fs:List (Str×List Kd)}(h: .kind n m fs∈own++rs):cN (k + 1) 72 [lo false rs tel num,.p (.str n)]= .ok (.p (.int m)):=by
 have e:=GF (y:=["kind",n]) X.dt;rw[EN X h (by simp[told])]at e;exact ce (gF 70 rfl) (Am (d2 (d1 rfl rfl) (dt (fz rfl (fz rfl rfl))) e) (Ax (ZD (bb #[rfl]) #[#[2]]) rfl))
theorem DL{l:List Str}(h: .cls n l∈rs):cN (k + 1) 75 [lo false rs tel num,.p (.str n)]= .ok (.lst true (l.map P.str)):=by
 have e:=GF (y:=["class",n]) X.dt;rw[EN X (mR h) (by simp[told])]at e;exact ce (gF 71 rfl) (Am (d2 (d1 rfl rfl) (dt (fz rfl (fz rfl rfl))) e) (Ax (ZD (bb #[rfl]) (d1 #[#[2]] rfl)) rfl))
theorem G2{ks:List Kd}{r:Kd}(h: .Ba n c ks r∈rs):cN (k + 1) 77 [lo false rs tel num,.p (.str n)]= .ok (.p (.tup [.str c,.tup (ks.map Kd.p),r.p])):=by
 have e:=GF (y:=["function",n]) X.dt;rw[EN X (mR h) (by simp[told])]at e;exact ce (gF 73 rfl) (Am (d2 (d1 rfl rfl) (dt (fz rfl (fz rfl rfl))) e) (Ag (CV (bb #[rfl]) (bb (d2 #[#[0]] rfl Xy))) (Ax (dt (fz #[#[2]] (fz #[#[3]] (fz #[#[4]] rfl)))) rfl)))
theorem Es{l:List (Option Str)}{i:Nat}(h:rs[i]? =some (.Af c q l)):cN (k + 1) 79 [lo false rs tel num,.p (.str c),.p (.str q)]= .ok (.p (.int i)):=by
 have e:=GF (y:=["house",c,q]) X.dn;rw[KR X h (by simp[told])]at e;exact ce (gF 75 rfl) (Ax (d2 (d1 rfl rfl) (dt (fz rfl (fz rfl (fz rfl rfl)))) e) rfl)
theorem PV(h:∀l,.Af c q l∉rs):cN (k + 1) 79 [lo false rs tel num,.p (.str c),.p (.str q)]= .ok (.p .AG):=by
 have e:=GF (y:=["house",c,q]) X.dn
 rw [P1 X λx hx hy=>by
  cases x with
  |Af c' q' l=>
    cases (show[("house":Str),c,q]=([("house":Str),c',q']:List Str)from by simpa[told]using hy);exact h l hx
  |_=>simp[told]at hy]at e
 exact ce (gF 75 rfl) (Ax (d2 (d1 rfl rfl) (dt (fz rfl (fz rfl (fz rfl rfl)))) e) rfl)
theorem GC{l:List (Option Str)}{i:Nat}(h:rs[i]? =some (.Af c q l)):cN (k + 1) 80 [lo false rs tel num,.p (.int i)]= .ok (.p (Row.Af c q l).p):=by
 have hi:=(List.getElem?_eq_some_iff.mp h).1;have e:Ae (.p (.box 0 (rs.map Row.p))) (.p (.int i))=some (.p (Row.Af c q l).p):=AA (ps:=rs.map Row.p) rfl (by rw[List.getElem?_map,h];rfl);exact ce (gF 76 rfl) (Ag (CV (bb #[FG (by lia)]) (bb (d2 rfl (d1 (d1 rfl rfl) (show AD (.p (.box 0 (rs.map Row.p)))=some (.p (.int (rs.map Row.p).length))from rfl)) (congrArg (λb=>some (bC b)) (dF (by simp;lia)))))) (Am (d2 (d1 rfl rfl) rfl e) (Ax (bP (bb (d2 #[#[0]] rfl eqT)) rfl) rfl)))
theorem JO{l:List (Option Str)}{i:Nat}(h:rs[i]? =some (.Af c q l)):cN (k + 2) 81 [lo false rs tel num,.p (.int i)]= .ok (.p (.tup (l.map oP))):=
 ce (gF 77 rfl) (Am (Hg rfl rfl (GC X h)) (Ax (ZD (bb #[rfl]) #[#[3]]) rfl))
theorem Ir:cN (k+1) 71 [lo false rs tel num]= .ok (.lst true (rs.map Row.p)):=ce (gF 69 rfl) (Ax (d1 (d1 rfl rfl) rfl) rfl)
theorem WU{x:Row}{y:List Str}(hx:x∈own++rs)(hy:y∈told x):JN (.p (kP y)) (.Bl false tel)=some (bC false):=by
 show((IL (.p (kP y)) (.Bl false tel)).map λk=>bC (!k))=_;rw[show IL (.p (kP y)) (.Bl false tel)=(if Bk tel (kP y)then some (CT tel (kP y)).isSome else none)from rfl,iP (X.dt.By y),X.dt.g,EN X hx hy];rfl
def Mq:Row->Str
 |.Ba n _ _ _=>n
 |_=>⟨[].toArray⟩
def PQ(c:Str):Row->Bool
 |.Ba _ c' _ _=>decide (c'=c)
 |_=>false
omit X in
theorem de {x y:Str}:Bd (.p (.str x)) (.p (.str y))=some (bC (decide (x=y))):=by unfold Bd;rw[eqs];rfl
theorem K6{l:List Str}(h: .cls c l∈rs):∃ns:List Str,cN (k + 1) 78 [lo false rs tel num,.p (.str c)]= .ok (.lst true (ns.map P.str))/\ns.length<=40/\∀n,n∈ns↔∃ks r,.Ba n c ks r∈rs:=by
 refine#[(rs.filter (PQ c)).map Mq,?_,by rw[lM];exact Nat.le_trans (length_filter_le _ _) X.hl,λn=>?_]
 .refine ce (gF 74 rfl) (Ag (bb (d2 (dt (fz rfl (fz rfl rfl))) (d1 rfl rfl) (WU X (y:=["class",c]) (mR h) (by simp[told])))) (Ax (Qi Row.p rs (PQ c) (λr=>.str (Mq r)) (d1 rfl rfl) rfl (by have:=X.hl;lia) λr hr=>#[_,rfl,?_,λhp=>?_]) (by rw[map_map];rfl)))
  .cases r with
   |Ba n c' ks r=>exact Qz (bb (d2 #[#[0]] rfl eqT)) (bb (d2 #[#[2]] rfl de))
   |_=>exact UO (bb (d2 #[#[0]] rfl Bc))
  .cases r with
   |Ba n c' ks r=>exact#[_,#[#[1]],rfl]
   |_=>cases hp
 .rw[mem_map];constructor
  .rintro⟨r,hr,rfl⟩
   rintro⟨h1,h2⟩:mem_filter.mp hr;cases r with
   |Ba n c' ks r=>cases of_decide_eq_true h2;exact#[ks,r,h1]
   |_=>cases h2
  .rintro⟨ks,r,hr⟩
   exact#[_,mem_filter.mpr #[hr,dZ rfl],rfl]
omit X in
theorem PU {x:Str} {l:List Str} {o:Bool}:IL (.p (.str x)) (.lst o (l.map P.str))=some (l.contains x):=by
 show(((Cv P.BN (l.map P.str)).map λxs=>xs.contains x) <|> _)=_;rw[Oe];rfl
theorem Tx{l:List (Option Str)}{i:Nat}{el:List Str}{ks:List Kd}{r:Kd}(h:rs[i]? =some (.Af c q l))(hc: .cls c el∈rs)(hd: .Ba d c ks r∈rs)(hb:(∃n e,.once d n e∈rs)\/∃n e,.CS c q d n e∈rs):∃j:Nat,cN (k + 2) 82 [lo false rs tel num,.p (.int i),.p (.str d)]= .ok (.p (.int j)):=by
 rintro⟨ns,e1,_,e2⟩:K6 (k:=k) X hc
 have hin:JN (.p (.str d)) (.lst true (ns.map P.str))=some (bC false):=by
  show((IL (.p (.str d)) (.lst true (ns.map P.str))).map λk=>bC (!k))=_;rw[PU,show ns.contains d=true from by simpa using(e2 d).mpr #[ks,r,hd]];rfl
 have g1:=GF (y:=["does",c,q,d]) X.dn
 have go:∀{j:Nat} {v:P},(El rs).lookup ([("does":Str),c,q,d]:List Str)=some (.int j)->∃j:Nat,cN (k + 2) 82 [lo false rs tel num,.p (.int i),.p (.str d)]= .ok (.p (.int j)):=λ{j v} e=>by
  rw[e]at g1;exact#[j,ce (gF 78 rfl) (Am (Hg rfl rfl (GC X h)) (Ag (CV (bb #[rfl]) (bb (d2 rfl (Hg rfl #[#[1]] e1) hin))) (Am (d2 (d1 rfl rfl) (dt (fz rfl (fz #[#[1]] (fz #[#[2]] (fz rfl rfl))))) g1) (Ax (ZD (bb #[rfl]) rfl) rfl))))]
 by_cases hdo:∃x∈rs,([("does":Str),c,q,d]:List Str)∈told x
 .obtain⟨x,hx,hy⟩:=hdo;rintro⟨j,hj⟩:mem_iff_getElem?.mp hx;exact go (v:=.AG) (KR X hj hy)
 .have hn:∀x∈rs,([("does":Str),c,q,d]:List Str)∉told x:=λx hx hy=>hdo #[x,hx,hy]
  rw[P1 X hn]at g1;rcases hb with⟨n,e,ho⟩|⟨n,e,ho⟩
  .obtain⟨j,hj⟩:=mem_iff_getElem?.mp ho;have g2:=GF (y:=["once",d]) X.dn;rw[KR X hj (by simp[told])]at g2;exact#[j,ce (gF 78 rfl) (Am (Hg rfl rfl (GC X h)) (Ag (CV (bb #[rfl]) (bb (d2 rfl (Hg rfl #[#[1]] e1) hin))) (Am (d2 (d1 rfl rfl) (dt (fz rfl (fz #[#[1]] (fz #[#[2]] (fz rfl rfl))))) g1) (Ax (bP (bb #[rfl]) (d2 (d1 rfl rfl) (dt (fz rfl (fz rfl rfl))) g2)) rfl))))]
  .exact absurd (by simp[told]) (hn _ ho)
end
def Rk(rk:Str->Nat)(rs:List Row):Prop:=∀n l,.cls n l∈rs->∀e∈l,rk e < rk n/\∃l',.cls e l'∈rs
def FQ:Row->Str
 |.cls n _=>n
 |_=>⟨[].toArray⟩
def Fu:Row->Bool
 |.cls _ _=>true
 |_=>false
def Ur(F:List Str)(r:Row):Nat:=if Fu r=true/\FQ r∉F then 1 else 0
def Ep:List Row->List Str->Nat
 |[],_=>0
 |r::rs,F=>Ur F r+Ep rs F
theorem IH(F:List Str):∀rs:List Row,Ep rs F<=rs.length
 |[]=>Nat.le_refl _
 | r::rs=>by
   have h1:=IH F rs;have h2:Ur F r<=1:=by unfold Ur;split<;>decide
   simp only[Ep,lC];lia
theorem Pn(F:List Str)(e:Str)(r:Row):Ur (F++[e]) r<=Ur F r:=by
 unfold Ur
 by_cases h:Fu r=true/\FQ r∉F++[e]
 .rw[iP h,iP #[h.1,λz=>h.2 (by simp[z])]];exact Nat.le_refl _
 .rw[iN h];exact Nat.zero_le _
theorem HC(F:List Str)(e:Str):∀rs:List Row,Ep rs (F++[e])<=Ep rs F
 |[]=>Nat.le_refl _
 |r::rs=>Nat.add_le_add (Pn F e r) (HC F e rs)
theorem Mf{F:List Str}{e:Str}{l:List Str}(he:e∉F):∀{rs:List Row},.cls e l∈rs->Ep rs (F++[e]) + 1<=Ep rs F
 | r ::rs,h=>by
   rcases mem_cons.mp h with rfl|h
   .have:=HC F e rs;have h1:Ur (F++[e]) (.cls e l)=0:=iN (by simp[FQ]);have h2:Ur F (.cls e l)=1:=iP #[rfl,he];simp only[Ep,h1,h2];lia
   .have:=Mf he h;have:=Pn F e r;simp only[Ep];lia
def Ks(F:List Str)(kvs:List (P×P)):Prop:=kvs.map (·.1)=F.map P.str
theorem Ks.By{F:List Str}{kvs:List (P×P)}(h:Ks F kvs)(e:Str):Bk kvs (.str e)=true:=by
 show(true && kvs.all λq=>q.1.tag == 3)=true;rw[Bool.true_and,all_eq_true];intro q hq;have:q.1∈kvs.map (·.1):=mem_map_of_mem hq;rw[h]at this;rintro⟨s,_,e⟩:mem_map.mp this;rw[<-e];rfl
theorem Ks.has{F:List Str}{kvs:List (P×P)}(h:Ks F kvs)(e:Str):(CT kvs (.str e)).isSome=F.contains e:=by
 unfold CT;rw[Option.isSome_map];have:(kvs.find? λq=>decide (q.1= .str e)).isSome=(kvs.map (·.1)).any λq=>decide (q= .str e):=by rw[List.any_map,Bool.eq_iff_iff,List.find?_isSome];simp
 rw[this,h,List.any_map,Bool.eq_iff_iff];simp
theorem Ks.IL{F:List Str}{kvs:List (P×P)}(h:Ks F kvs)(e:Str){o:Bool}:IL (.p (.str e)) (.Bl o kvs)=some (F.contains e):=by
 show(if Bk kvs (.str e)then some (CT kvs (.str e)).isSome else none)=_;rw[iP (h.By e),h.has]
section
variable {k:Nat}{rs:List Row}{tel num:List (P×P)}(X:Lr rs tel num){rk:Str->Nat}(K:Rk rk rs)
include X K
theorem GH{l:List Str}(hc: .cls c l∈rs):∃fs:List Str,cN (k + 2) 76 [lo false rs tel num,.p (.str c)]= .ok (.lst true (fs.map P.str))/\(∀e∈fs,rk e < rk c)/\∀e∈l,e∈fs:=by
 have l3:∀{e:Str} {l:List Str},.cls e l∈rs->l.length<=3:=λh=>(X.ok _ h).2.1
 obtain ⟨_, e,fs,rfl,h1,h2⟩:=cw (k:=k + 1) (args:=[lo false rs tel num,.p (.str c)]) (R:=λx=>∃fs:List Str,x= .lst true (fs.map P.str)/\(∀e∈fs,rk e < rk c)/\∀e∈l,e∈fs) (gF 72 rfl) (by
  refine Am (Hg rfl rfl (DL X hc)) (Ag (bb #[rfl]) (Am rfl (ZU (λm U=>∃(W F:List Str) (kvs:List (P×P)) (y:Option C),U=[some (lo false rs tel num),sS c,sL true (W.map P.str),some (.Bl true kvs),y]/\Ks F kvs/\(∀e,e∈W\/e∈F->rk e < rk c/\∃l',.cls e l'∈rs)/\(∀e∈l,e∈W\/e∈F)/\m=4*Ep rs F+W.length/\m<=200/\F.length+Ep rs F<=40) (n:=4*Ep rs []+l.length) #[l,[],[],none,rfl,rfl,λe h=>K c l hc e (by simpa using h),λe h=>.inl h,rfl,?_,?_] ?_)))
  .have:=IH [] rs;have:=X.hl;have:=l3 hc
   lia
  .have:=IH [] rs;have:=X.hl;simp;lia
  rintro m _ ⟨W,F,kvs,y,rfl,hk,h1,h2,rfl,hm,hF⟩
  by_cases hW:W=[]
  .subst hW;refine .inl #[bv rfl,Ax (Qi Row.p rs (λr=>Fu r && F.contains (FQ r)) (λr=>.str (FQ r)) (d1 rfl rfl) rfl (by have:=X.hl;lia) λr hr=>#[_,rfl,?_,λhp=>?_]) #[(rs.filter λr=>Fu r && F.contains (FQ r)).map FQ,by rw[map_map];rfl,λe he=>?_,λe he=>?_]]
   .cases r with
    |cls n l=>
      refine Qz (bb (d2 #[#[0]] rfl eqT)) (bb (d2 #[#[1]] rfl ?_));show((Nv.IL (.p (.str n)) (.Bl false kvs)).map bC)=_;rw[hk.IL];rfl
    |_=>exact UO (bb (d2 #[#[0]] rfl Bc))
   .cases r with
    |cls n l=>exact#[_,#[#[1]],rfl]
    |_=>cases hp
   .obtain⟨r,hr,rfl⟩:=mem_map.mp he;rintro⟨_,h4⟩:mem_filter.mp hr;rw[bA]at h4;exact(h1 _ (.inr (by simpa using h4.2))).1
   .have h5:=h2 e he;have h6:e∈F:=by simpa using h5
    rintro⟨_,l',hl'⟩:h1 e (.inr h6);exact mem_map.mpr #[_,mem_filter.mpr #[hl',by simp[Fu,FQ,h6]],rfl]
  .obtain ⟨W,e,rfl⟩:=snoc hW;rintro⟨_,l',hl'⟩:h1 e (.inl (by simp));have hin:JN (.p (.str e)) (.Bl false kvs)=some (bC (!F.contains e)):=by show((Nv.IL (.p (.str e)) (.Bl false kvs)).map λk=>bC (!k))=_;rw[hk.IL];rfl
   have kl:kvs.length=F.length:=by have:=congrArg List.length hk;simpa using this
   rw[lA,lS]at hm;refine .inr #[bv (c:=.lst false ((W++[e]).map P.str)) rfl (by simp[FE]),ZV #[] (ps:=W.map P.str) (p:=.str e) ?_ (by rw[<-map_singleton (f:=P.str),<-map_append];rfl)]
   by_cases he:e∈F
   .rw[show F.contains e=true by simpa using he]at hin;refine Ag (bb #[hin]) #[4*Ep rs F+W.length,by rw[lA];simp,W,F,kvs,_,rfl,hk,λa ha=>h1 a (by simpa using ha.imp .inl id),λa ha=>?_,rfl,by lia,hF];rcases h2 a ha with h|h
    .rcases mZ h with h|h
     .exact .inl h
     .cases mE h;exact .inr he
    .exact .inr h
   .rw [show F.contains e=false by simpa using he]at hin;have hlk:=Mf he hl';have hl3:=l3 hl';refine wit (bb #[hin]) (au (kvs:=kvs) rfl rfl (hk.By e) (by lia) (Xu (ps:=W.map P.str) (Hg rfl rfl (DL X hl')) rfl (by simp;lia) #[4*Ep rs (F++[e])+(W++l').length,by simp;lia,W++l',F++[e],dput kvs (.str e) (.bl true),sS e,by rw[map_append (l₁:=W) (l₂:=l')];rfl,?_,λa ha=>?_,λa ha=>?_,rfl,by simp;lia,by simp;lia]))
    .show(dput kvs (.str e) _).map (·.1)=_;rw[Qe,hk,iN λz=>he (by rintro⟨s,hs,h⟩:mem_map.mp z;injection h with h;exact h▸hs),map_append];rfl
    .rcases ha with ha|ha
     .rcases mZ ha with ha|ha
      .exact h1 a (.inl (by simp[ha]))
      .obtain⟨q1,q2⟩:=K e l' hl' a ha;exact#[Nat.lt_trans q1 (h1 e (.inl (by simp))).1,q2]
     .rcases mZ ha with ha|ha
      .exact h1 a (.inr ha)
      .cases mE ha;exact h1 e (.inl (by simp))
    .rcases h2 a ha with h|h
     .rcases mZ h with h|h
      .exact .inl (by simp[h])
      .exact .inr (by simp[mE h])
     .exact .inr (by simp[h]))
 exact#[fs,e,h1,h2]
end
def eU:List (List Str):=[["function","plus"],["function","minus"],["function","under"]]
def Dr:List (List Str):=own.flatMap told++eU
theorem UJ:∀L:List (List Str×P),Do L (L.map λq=>(kP q.1,q.2))
 |[]=>Ly
 | (z, v)::L=>by
   have d:=UJ L;refine#[λy=>?_,λq hq=>?_,by simp]
   .have:=d.g y;unfold CT at this ⊢;rw[map_cons,List.find?_cons,lookup_cons]
    by_cases h:y=z
    .subst h;simp
    .rw[show decide (kP z=kP y)=false from dF λe=>h (PF e).symm,show(y == z)=false from beq_eq_false_iff_ne.mpr h];exact this
   .rcases mem_cons.mp hq with rfl|hq
    .rfl
    .exact d.t q hq
theorem MQ{k:Nat}:cN (k + 2) 34 []= .ok (.Bl true ((Dr.map (ent (.bl true))).map λq=>(kP q.1,q.2))):=by
 have e:(k+1)<<<cD>>>[none,none,none,none]= .ret (.Bl true ((Dr.map (ent (.bl true))).map λq=>(kP q.1,q.2))):=by kernel_rfl
 refine ce (gF 32 rfl) ?_;show WP ((k+1)<<<cD>>>[none,none,none,none]) _ _;rw[e];rfl
theorem Cn{N:Env->Prop}{R:C->Prop}(h:N U):WP (execs cf As [] U) N R:=h
def Bu:Row->List Kd
 |.Ba _ _ ks r=>ks++[r]
 |.kind _ _ fs=>fs.flatMap (·.2)
 |_=>[]
def Kd.JX:Kd->Bool
 |.mk _ _=>true
 |_=>false
def E3(r:Row):List Kd:=(Bu r).flatMap λk=>k.w.filter Kd.JX
section
variable{k:Nat}{rs:List Row}{tel num:List (P×P)}
theorem Kx{o:Bool}(ok:∀r∈rs,r.ok)(hl:rs.length<=40)(nd:(Dr++rs.flatMap told).Nodup):cN (k + 3) 35 [.lst o (rs.map Row.p)]= .ok (.p .AG):=by
 refine ce (gF 33 rfl) (Am (dc rfl MQ) (R4 (λj U=>∃(L:List (List Str×P)) (kvs:List (P×P)) (y z w:Option C),U=[sL false (rs.map Row.p),some (.Bl true kvs),y,z,w]/\Do L kvs/\L.map (·.1)=Dr++(rs.take j).flatMap told) rfl rfl #[_,_,none,none,none,rfl,UJ _,by rw[DK];simp] ?_ ?_))
 .rintro j x hx _ ⟨L,kvs,y,z,w,rfl,d,hL⟩
  rintro⟨x,hx',rfl⟩:G1 hx;rw[List.getElem?_map]at hx';rintro⟨r,hj,rfl⟩:oM hx';have hr:=Eb (ok r (mem_of_getElem? hj))
  have n1:((L.map (·.1))++told r).Nodup:=by
   rw[hL]
   have e:rs=rs.take j++r::rs.drop (j + 1):=by
    have hj':=List.getElem?_eq_some_iff.mp hj
    conv=>lhs;rw[<-take_append_drop j rs,drop_eq_getElem_cons hj'.1,hj'.2]
   have n2:=nd;rw[e,flatMap_append,flatMap_cons,<-append_assoc,<-append_assoc,nodup_append]at n2;exact n2.1
  have ll:L.length<=300:=by
   have h1:=congrArg List.length hL;have h2:=IT (xs:=rs.take j) λr h=>Ec (Eb (ok r (mem_of_mem_take h)))
   have h3:Dr.length=7:=rfl;rw[lM,lA]at h1;simp only[length_take]at h2
   lia
  refine#[_,rfl,EI (λi U=>∃kvs w,U=[sL false (rs.map Row.p),some (.Bl true kvs),sI j,sP r.p,w]/\Do (L++((told r).take i).map (ent (.bl true))) kvs) (BL rfl (Ie hr)) rfl #[kvs,w,rfl,by simpa using d] ?_ ?_]
  .rintro i x hx _ ⟨kvs,w,rfl,d⟩
   rw[List.getElem?_map]at hx;rintro⟨y,hy,rfl⟩:oM hx;have l1:=d.l;have l2:=Ec hr
   have fresh:Nn (.p (kP y)) (.Bl false kvs)=some (bC false):=by
    show((IL (.p (kP y)) (.Bl false kvs)).map bC)=_;rw[show IL (.p (kP y)) (.Bl false kvs)=(if Bk kvs (kP y)then some (CT kvs (kP y)).isSome else none)from rfl,iP (d.By y),d.g,lookup_eq_none_iff.mpr]
    .rfl
    .intro q hq;refine bne_iff_ne.mpr λ(e:y=q.1)=>?_
     have:y∈(L++((told r).take i).map (ent (.bl true))).map (·.1):=e▸mem_map_of_mem hq;rw[map_append,DK]at this;rcases mZ this with h|h
     .exact(nodup_append.mp n1).2.2 y h y (mem_of_getElem? hy) rfl
     .have nd2:=(nodup_append.mp n1).2.1;rw[<-take_append_drop i (told r),nodup_append]at nd2;exact nd2.2.2 y h y (mem_of_getElem? (i:=0) (by rw[List.getElem?_drop];simpa using hy)) rfl
   refine#[_,rfl,Ag (bb #[fresh]) (au (kvs:=kvs) rfl rfl (d.By y) (by simp at l1;lia) #[_,_,rfl,IZ d hy n1])]
  .rintro _ ⟨kvs,w,rfl,d⟩
   rw[lM,take_length]at d;exact#[_,kvs,_,_,_,rfl,d,by rw[map_append,DK,hL,take_add_one,hj,Option.toList_some,flatMap_append,flatMap_singleton,append_assoc]]
 .rintro _ ⟨L,kvs,y,z,w,rfl,d,hL⟩
  exact Ax rfl rfl
theorem Hs{r:Row}(h:r.ok):cN (k + 1) 36 [.p r.p]= .ok (.lst true ((Bu r).map Kd.p))/\(Bu r).length<=12/\∀x∈Bu r,x.ok:=by
 cases r with
 |Ba n c ks r=>
   have hl:=h.2.2.1;refine#[ce (gF 34 rfl) (wit (bb (d2 #[#[0]] rfl eqT)) (Ax (d2 (d1 #[#[3]] rfl) (dl (fz #[#[4]] rfl)) (add_l (by simp;lia))) ?_)),?_,?_]
   .rw[show Bu (.Ba n c ks r)=ks++[r]from rfl,map_append];rfl
   .simp[Bu];lia
   .intro x hx;rcases mZ hx with hx|hx
    .exact(h.2.2.2.1 x hx).1
    .cases mE hx;exact h.2.2.2.2.1
 |kind n m fs=>
   rintro⟨_,_,_,h4,h5⟩:h
   have hl:∀j,((fs.take j).flatMap (·.2)).length<=3 * (fs.take j).length:=λj=>by
    have:∀xs:List (Str×List Kd),(∀f∈xs,f.2.length<=3)->(xs.flatMap (·.2)).length<=3 * xs.length:=λxs=>by
     induction xs with
     |nil=>intro _;exact Nat.le_refl _
     |cons f xs ih=>intro h;have:=h f (by simp);have:=ih λf hf=>h f (mem_cons_of_mem _ hf);rw[flatMap_cons,lA,lC];lia
    exact this _ λf hf=>(h5 f (mem_of_mem_take hf)).2.1
   refine#[ce (gF 34 rfl) (Ag (bb (d2 #[#[0]] rfl Bc)) (Am (dl rfl) (wit (bb (d2 #[#[0]] rfl eqT)) (EI (λj U=>∃y,U=[sP (Row.kind n m fs).p,sL true (((fs.take j).flatMap (·.2)).map Kd.p),y]) #[#[3]] rfl #[none,rfl] ?_ ?_)))),?_,?_]
   .rintro j x hx _ ⟨y,rfl⟩
    rw[List.getElem?_map]at hx;rintro⟨f,hf,rfl⟩:oM hx;have:=hl j;have:=(h5 f (mem_of_getElem? hf)).2.1;have:(fs.take j).length<=4:=by rw[length_take];lia
    refine#[_,rfl,Xu (ps:=((fs.take j).flatMap (·.2)).map Kd.p) #[AA (i:=1) (ps:=[.str f.1,.tup (f.2.map Kd.p)]) rfl rfl] rfl (by rw[lA,lM,lM];lia) #[some (.p (fP f)),?_]];rw[take_add_one,hf,Option.toList_some,flatMap_append,flatMap_singleton,map_append];rfl
   .rintro _ ⟨y,rfl⟩
    rw[lM,take_length];exact Cn (MK rfl)
   .have:=hl 4;rw[take_of_length_le h4]at this;show(fs.flatMap (·.2)).length<=12
    lia
   .intro x hx;rintro⟨f,hf,hx⟩:mem_flatMap.mp hx;exact((h5 f hf).2.2 x hx).1
 |_=>exact#[ce (gF 34 rfl) (Ag (bb (d2 #[#[0]] rfl Bc)) (Am (dl rfl) (Ag (bb (d2 #[#[0]] rfl Bc)) (MK rfl)))),Nat.le_of_ble_eq_true rfl,λx hx=>by cases hx]
theorem Gx{r:Row}(h:r.ok):cN (k + 2) 37 [.p r.p]= .ok (.lst true ((E3 r).map Kd.p))/\(E3 r).length<=48:=by
 rintro⟨e,h1,h2⟩:Hs (k:=k) h
 have hl:∀j,(((Bu r).take j).flatMap λk=>k.w.filter Kd.JX).length<=4 * ((Bu r).take j).length:=λj=>by
  have:∀xs:List Kd,(∀f∈xs,f.ok)->(xs.flatMap λk=>k.w.filter Kd.JX).length<=4 * xs.length:=λxs=>by
   induction xs with
   |nil=>intro _;exact Nat.le_refl _
   |cons f xs ih=>
     intro h;have a1:(f.w.filter Kd.JX).length<=f.w.length:=length_filter_le _ _;have a2:f.w.length<=4:=LX (h f (by simp));have:=ih λf hf=>h f (mem_cons_of_mem _ hf)
     rw[flatMap_cons,lA,lC];lia
  exact this _ λf hf=>h2 f (mem_of_mem_take hf)
 refine#[ce (gF 35 rfl) (Am (dl rfl) (EI (λj U=>∃y,U=[sP r.p,sL true ((((Bu r).take j).flatMap λk=>k.w.filter Kd.JX).map Kd.p),y]) (BL rfl e) rfl #[none,rfl] ?_ ?_)),?_]
 .rintro j x hx _ ⟨y,rfl⟩
  rw[List.getElem?_map]at hx;rintro⟨d,hd,rfl⟩:oM hx;have ho:=h2 d (mem_of_getElem? hd);have a1:(d.w.filter Kd.JX).length<=d.w.length:=length_filter_le _ _;have a2:d.w.length<=4:=LX ho;have:=hl j;have:((Bu r).take j).length<=12:=by rw[length_take];lia
  refine#[_,rfl,Xu (ps:=(((Bu r).take j).flatMap λk=>k.w.filter Kd.JX).map Kd.p) (Qi Kd.p d.w Kd.JX Kd.p (BL rfl (within ho)) rfl (by lia) λa ha=>#[_,rfl,?_,λ_=>#[_,rfl,rfl]]) rfl (by rw[lA,lM,lM];lia) #[some (.p d.p),?_]]
  .cases a with
   |op i=>exact bb (d1 rfl rfl)
   |mk n as=>exact bb (d1 rfl rfl)
  .rw[take_add_one,hd,Option.toList_some,flatMap_append,flatMap_singleton,map_append];rfl
 .rintro _ ⟨y,rfl⟩
  rw[lM,take_length];exact MK rfl
 .have:=hl (Bu r).length;rw[take_length]at this;unfold E3
  lia
end
def ao(rs:List Row)(k:Kd):Prop:=∀n as,Kd.mk n as∈k.w->∃fs,.kind n as.length fs∈own++rs
def cy(rs:List Row)(a b:Option Str):Prop:=a=none\/a=b\/∃x y l,a=some x/\b=some y/\.cls y l∈rs/\x∈l
noncomputable def Gd(rs:List Row):Row->Prop
 |.kind _ _ fs=>∀f∈fs,∀k∈f.2,ao rs k
 |.cls _ _=>True
 |.Ba _ c ks r=>(∃l,.cls c l∈rs)/\(∀k∈ks++[r],ao rs k)/\∃k∈ks++[r],∃i,Kd.op i∈k.w
 |.Af c q l=>(∃el,.cls c el∈rs/\∀e∈el,∃l',.Af e q l'∈rs/\∀p∈l'.zip l,cy rs p.1 p.2)/\(∃fs,.kind q l.length fs∈own++rs)/\(∀n,some n∈l->∃el,.cls n el∈rs)/\∀n ks r,.Ba n c ks r∈rs->(∃m e,.once n m e∈rs)\/∃m e,.CS c q n m e∈rs
 |.once d n _=>∃c ks r,.Ba d c ks r∈rs/\(Jj n).length=ks.length
 |.CS c q d n _=>(∃l,.Af c q l∈rs)/\∃ks r,.Ba d c ks r∈rs/\(Jj n).length=ks.length
 |.ask _=>True
theorem P7{r:Row}(g:Gd rs r){x:Kd}(h:x∈E3 r):∃n as fs,x= .mk n as/\.kind n as.length fs∈own++rs:=by
 rintro⟨k,hk,hx⟩:mem_flatMap.mp h;rintro⟨h1,h2⟩:mem_filter.mp hx
 have ok:ao rs k:=by
  cases r with
  |Ba n c ks r=>exact g.2.1 k hk
  |kind n m fs=>rintro⟨f,hf,hk⟩:mem_flatMap.mp hk;exact g f hf k hk
  |_=>cases hk
 cases x with
 |op i=>cases h2
 |mk n as=>rintro⟨fs,hf⟩:ok n as h1;exact#[n,as,fs,rfl,hf]
section
variable{k:Nat}{rs:List Row}{tel num:List (P×P)}{r:Row}
theorem B0(ps:List P){o:Bool}:AD (.lst o ps)=some (.p (.int ps.length)):=rfl
theorem JU(h:r.ok)(g:Gd rs r):∃ns:List Str,cN (k + 3) 38 [.p r.p]= .ok (.lst true (ns.map P.str))/\ns.length<=48/\∀n∈ns,∃m fs,.kind n m fs∈own++rs:=by
 by_cases hh:∃c q l,r= .Af c q l
 .obtain⟨c,q,l,rfl⟩:=hh;rintro⟨fs,hf⟩:g.2.1;exact#[[q],ce (gF 36 rfl) (wit (bb (d2 #[#[0]] rfl eqT)) (Ax (dl (fz #[#[2]] rfl)) rfl)),Nat.le_of_ble_eq_true rfl,λn hn=>by rw[mE hn];exact#[_,fs,hf]]
 .obtain⟨e,hl⟩:=Gx (k:=k) h;refine#[(E3 r).map λx=>match x with| .mk n _=>n|_=>⟨[].toArray⟩,ce (gF 36 rfl) (Ag ?_ (Ax (Qi Kd.p (E3 r) (λ_=>true) (λx=>match x with| .mk n _=>.str n|_=>.str ⟨[].toArray⟩) (BL rfl e) rfl (by lia) λx hx=>#[_,rfl,rfl,λ_=>?_]) ?_)),by rw[lM];exact hl,λn hn=>?_]
  .cases r with
   |Af c q l=>exact absurd #[c,q,l,rfl] hh
   |_=>exact bb (d2 #[#[0]] rfl Bc)
  .obtain⟨n,as,fs,rfl,_⟩:=P7 g hx;exact#[_,#[#[0]],rfl]
  .rw[filter_tt,map_map];exact congrArg (C.lst true) (map_congr_left λx _=>by cases x<;>rfl)
  .obtain⟨x,hx,rfl⟩:=mem_map.mp hn;rintro⟨n,as,fs,rfl,hf⟩:P7 g hx;exact#[_,fs,hf]
def Jx(l:List (Option Str)):List Str:=l.filterMap id
theorem Hh{rk:Str->Nat}(K:Rk rk rs)(hr:r∈rs)(h:r.ok)(g:Gd rs r):∃ns:List Str,cN (k + 1) 39 [.p r.p]= .ok (.lst true (ns.map P.str))/\ns.length<=4/\∀n∈ns,∃l,.cls n l∈rs:=by
 cases r with
 |cls n l=>exact#[l,ce (gF 37 rfl) (wit (bb (d2 #[#[0]] rfl eqT)) (Ax (d1 #[#[2]] rfl) rfl)),by have:=h.2.1;lia,λe he=>(K n l hr e he).2]
 |Ba n c ks r=>exact#[[c],ce (gF 37 rfl) (Ag (bb (d2 #[#[0]] rfl Bc)) (wit (bb (d2 #[#[0]] rfl eqT)) (Ax (dl (fz #[#[2]] rfl)) rfl))),Nat.le_of_ble_eq_true rfl,λe he=>by rw[mE he];exact g.1]
 |Af c q l=>
   have hl:=h.2.2.1;have e3:((l.filter Option.isSome).map oP).length<=3:=by rw[lM];exact Nat.le_trans (length_filter_le _ _) hl
   refine#[c::Jx l,ce (gF 37 rfl) (Ag (bb (d2 #[#[0]] rfl Bc)) (Ag (bb (d2 #[#[0]] rfl Bc)) (wit (bb (d2 #[#[0]] rfl eqT)) (Ax (d2 (dl (fz #[#[1]] rfl)) (Qi oP l Option.isSome oP #[#[3]] rfl (by lia) λo ho=>#[_,rfl,?_,λ_=>#[_,rfl,rfl]]) (add_l (by rw[lA,lS];lia))) ?_)))),?_,λn hn=>?_]
   .cases o with
    |none=>exact bb #[rfl]
    |some x=>exact bb #[rfl]
   .have:∀l:List (Option Str),(l.filter Option.isSome).map oP=(Jx l).map P.str:=λl=>by
     induction l with
     |nil=>rfl
     | cons o l ih=>cases o with
       |none=>exact ih
       |some x=>show oP (some x)::(l.filter Option.isSome).map oP= .str x::(Jx l).map P.str;rw[ih];rfl
    rw[this];rfl
   .have:=List.length_filterMap_le id l;simp[Jx];lia
   .rcases mem_cons.mp hn with rfl|hn
    .obtain⟨el,he,_⟩:=g.1;exact#[el,he]
    .exact g.2.2.1 n (by simpa[Jx]using hn)
 |_=>exact#[[],ce (gF 37 rfl) (Ag (bb (d2 #[#[0]] rfl Bc)) (Ag (bb (d2 #[#[0]] rfl Bc)) (Ag (bb (d2 #[#[0]] rfl Bc)) (Ax (dl rfl) rfl)))),Nat.zero_le _,λn hn=>by cases hn]
variable (X:Lr rs tel num){rk:Str->Nat}(K:Rk rk rs)
include X
theorem Sk(g:Gd rs r):cN (k + 2) 40 [lo false rs tel num,.p r.p]= .ok (bC false):=by
 cases r with
 |once d n e=>
   rintro⟨c,ks,r,hd,_⟩:g;exact ce (gF 38 rfl) (wit (bb (d2 #[#[0]] rfl eqT)) (Ax (d2 (Hg rfl #[#[1]] (G2 X hd)) rfl rfl) rfl))
 |CS c q d n e=>
   rintro⟨⟨l,hh⟩,ks,r,hd,_⟩:g;rintro⟨i,hi⟩:mem_iff_getElem?.mp hh;exact ce (gF 38 rfl) (Ag (bb (d2 #[#[0]] rfl Bc)) (Ag (bb (d2 #[#[0]] rfl Xy)) (Am (Hg rfl #[#[3]] (G2 X hd)) (Ax (ay (d2 (dm rfl (ar #[#[1]] (ar #[#[2]] rfl)) (Es X hi)) rfl rfl) (ay #[rfl] (d2 #[#[0]] #[#[1]] Xy))) rfl))))
 |_=>exact ce (gF 38 rfl) (Ag (bb (d2 #[#[0]] rfl Bc)) (wit (bb (d2 #[#[0]] rfl neT)) (Ax rfl rfl)))
include K in
theorem nothing (hr:r∈rs) (g:Gd rs r):cN (k + 4) 41 [lo false rs tel num,.p r.p]= .ok (bC false):=by
 rintro⟨ns,e1,l1,h1⟩:JU (k:=k) (X.ok r hr) g;rintro⟨ms,e2,l2,h2⟩:Hh (k:=k+2) K hr (X.ok r hr) g;refine ce (gF 39 rfl) (Ag (bb (ag (xs:=ns.map P.str) (BL rfl e1) rfl (by rw[lM];lia) λx hx=>?_)) (Ag (bb (ag (xs:=ms.map P.str) (BL rfl e2) rfl (by rw[lM];lia) λx hx=>?_)) (Ax (EB rfl rfl (Sk X g)) rfl)))
 .obtain⟨n,hn,rfl⟩:=mem_map.mp hx;rintro⟨m,fs,hf⟩:h1 n hn;exact#[_,rfl,d2 (Hg rfl rfl (IF X hf)) rfl rfl]
 .obtain⟨n,hn,rfl⟩:=mem_map.mp hx;rintro⟨l,hf⟩:h2 n hn;exact#[_,rfl,d2 (Hg rfl rfl (DL X hf)) rfl rfl]
theorem KY(hr:r∈rs)(g:Gd rs r):cN (k + 3) 42 [lo false rs tel num,.p r.p]= .ok (bC false):=by
 have other:(∀c q l,r≠.Af c q l)->(∀d n e,r≠.once d n e)->(∀c q d n e,r≠.CS c q d n e)->cN (k + 3) 42 [lo false rs tel num,.p r.p]= .ok (bC false):=λn1 n2 n3=>by
  rintro⟨e1,l1⟩:Gx (k:=k) (X.ok r hr)
  have fin:WP ((k + 2)<<<(dG.drop 3)>>>[some (lo false rs tel num),sP r.p]) (λ_=>bC false= .p .AG) (λd=>bC false=d):=by
   refine Ax (ag (xs:=(E3 r).map Kd.p) (BL rfl e1) rfl (by rw[lM];lia) λx hx=>?_) rfl;rintro⟨y,hy,rfl⟩:mem_map.mp hx;rintro⟨n,as,fs,rfl,hf⟩:P7 g hy;refine#[_,rfl,d2 (d2 (d1 rfl (Av _)) rfl rfl) (Hg rfl #[#[0]] (IF X hf)) (NL ?_)];simp
  cases r with
  |Af c q l=>exact absurd rfl (n1 c q l)
  |once d n e=>exact absurd rfl (n2 d n e)
  |CS c q d n e=>exact absurd rfl (n3 c q d n e)
  |_=>exact ce (gF 40 rfl) (Ag (bb (d2 #[#[0]] rfl Bc)) (Ag (bb (d2 #[#[0]] rfl Bc)) (Ag (bb (d2 #[#[0]] rfl Bc)) fin)))
 cases r with
 |Af c q l=>
   rintro⟨fs,hf⟩:g.2.1;exact ce (gF 40 rfl) (wit (bb (d2 #[#[0]] rfl eqT)) (Ax (d2 (d1 #[#[3]] (Av _)) (Hg rfl #[#[2]] (IF X hf)) (NL (by simp))) rfl))
 |once d n e=>
   rintro⟨c,ks,r,hd,hl⟩:g;exact ce (gF 40 rfl) (Ag (bb (d2 #[#[0]] rfl Bc)) (wit (bb (d2 #[#[0]] rfl eqT)) (Ax (d2 (d1 #[#[2]] (Av _)) (d1 (d2 (Hg rfl #[#[1]] (G2 X hd)) rfl #[1]) (Av _)) (NL (by simp[hl]))) rfl)))
 |CS c q d n e=>
   rintro⟨_,ks,r,hd,hl⟩:g;exact ce (gF 40 rfl) (Ag (bb (d2 #[#[0]] rfl Bc)) (Ag (bb (d2 #[#[0]] rfl Bc)) (wit (bb (d2 #[#[0]] rfl eqT)) (Ax (d2 (d1 #[#[4]] (Av _)) (d1 (d2 (Hg rfl #[#[3]] (G2 X hd)) rfl #[1]) (Av _)) (NL (by simp[hl]))) rfl))))
 |_=>exact other (λ_ _ _ z=>nomatch z) (λ_ _ _ z=>nomatch z) (λ_ _ _ _ _ z=>nomatch z)
end
section
variable {k:Nat}{rs:List Row}{tel num:List (P×P)}{r:Row}(X:Lr rs tel num){rk:Str->Nat}(K:Rk rk rs)
include X
include K in
theorem SW (hr:r∈rs):cN (k + 3) 43 [lo false rs tel num,.p r.p]= .ok (bC false):=by
 cases r with
 |cls n l=>
   rintro⟨fs,e,h1,_⟩:GH (k:=k) X K hr;refine ce (gF 41 rfl) (Ax (E7 (d2 #[#[0]] rfl eqT) (d2 #[#[1]] (Hg rfl #[#[1]] e) ?_)) rfl);show((IL (.p (.str n)) (.lst true (fs.map P.str))).map bC)=_;rw[PU,show fs.contains n=false from by simpa using λh=>Nat.lt_irrefl _ (h1 n h)];rfl
 |_=>exact ce (gF 41 rfl) (Ax (cG (d2 #[#[0]] rfl Bc)) rfl)
theorem L7(hr:r∈rs)(g:Gd rs r):cN (k + 3) 44 [lo false rs tel num,.p r.p]= .ok (bC false):=by
 by_cases hd:∃n c ks q,r= .Ba n c ks q
 .have ok :=X.ok r hr;rintro⟨e,hl,ho⟩:Hs (k:=k+1) ok;have hop:∃x∈Bu r,∃i,Kd.op i∈x.w:=by rintro⟨n,c,ks,q,rfl⟩:hd;exact g.2.2
  rintro⟨x0,hx0,i,hi⟩:hop
  have key:∀xs:List Kd,(∀x∈xs,x.ok)->∃ys:List (List P),(C7 (.nm 1) (λ_=>.ok true) (den (cN (k + 2)) (.call 12 [{1}])).v [none,none] (xs.map Kd.p)= .ok (ys.map (.box 0)))/\((∃x∈xs,∃i,Kd.op i∈x.w)->(ys.any λy=>!y.isEmpty)=true):=by
   intro xs
   induction xs with
   |nil=>intro _;exact#[[],rfl,λ⟨x,hx,_⟩=>by cases hx]
   |cons x xs ih=>
     intro h;rintro⟨ys,e1,e2⟩:ih λy hy=>h y (mem_cons_of_mem _ hy)
     rintro⟨ns,e3,_,e4⟩:opens (k:=k) (h x (by simp));refine#[(ns.map λi=>.int (i:Nat))::ys,?_,?_]
     .show(((k+2)|||(.call 12 [{1}])&&&[none,sP x.p])).bind _=_;rw[BL rfl e3];show(C7 (.nm 1) (λ_=>.ok true) (den (cN (k+2)) (.call 12 [{1}])).v [none,none] (xs.map Kd.p)).bind _=_;rw[e1];rfl
     .rintro⟨z,hz,i,hi⟩
      rw[any_cons,Bool.or_eq_true];rcases mem_cons.mp hz with rfl|hz
      .left;have:=(e4 i).mpr hi;cases ns with
       |nil=>cases this
       |cons _ _=>rfl
      .exact .inr (e2 #[z,hz,i,hi])
  rintro⟨ys,e1,e2⟩:key (Bu r) ho
  have hany:anyC (.lst true (ys.map (.box 0)))=some (bC true):=by
   show((Cv MP (ys.map (.box 0))).map λbs=>bC (bs.any id))=_
   have:Cv MP (ys.map (.box 0))=some (ys.map λy=>!y.isEmpty):=by
    clear e1 e2
    induction ys with
    |nil=>rfl
    |cons y ys ih=>show(some (!y.isEmpty)).bind _=_;rw[Option.bind_some,ih];rfl
   rw[this,Option.map_some,List.any_map];exact congrArg (λb=>some (bC b)) (e2 #[x0,hx0,i,hi])
  rintro⟨n,c,ks,q,rfl⟩:hd;refine ce (gF 42 rfl) (Ax (E7 (d2 #[#[0]] rfl eqT) (dN (d1 (x:=.lst true (ys.map (.box 0))) ?_ hany))) rfl);show(((k+2)|||(.call 36 [{1}])&&&[some (lo false rs tel num),sP (Row.Ba n c ks q).p])).bind _=_;rw[BL rfl e];show(if((Bu (.Ba n c ks q)).map Kd.p).length<=big then(C7 (.nm 1) (λ_=>.ok true) (den (cN (k+2)) (.call 12 [{1}])).v [none,none] ((Bu (.Ba n c ks q)).map Kd.p)).bind _ else _)=_;rw[iP (show _<=big from by rw[lM];exact Nat.le_trans hl #[]),e1];rfl
 .cases r with
  |Ba n c ks q=>exact absurd #[n,c,ks,q,rfl] hd
  |_=>exact ce (gF 42 rfl) (Ax (cG (d2 #[#[0]] rfl Bc)) rfl)
theorem L9(hr:r∈rs)(g:Gd rs r):cN (k + 3) 45 [lo false rs tel num,.p r.p]= .ok (bC false):=by
 cases r with
 |Af c q l=>
   rintro⟨⟨el,hc,_⟩,_,_,hb⟩:g;rintro⟨i,hi⟩:mem_iff_getElem?.mp hr;rintro⟨ns,e,hl,hn⟩:K6 (k:=k+1) X hc;refine ce (gF 43 rfl) (Ag (bb (d2 #[#[0]] rfl Xy)) (Am (dm rfl (ar #[#[1]] (ar #[#[2]] rfl)) (Es X hi)) (Ax (ag (xs:=ns.map P.str) (Hg rfl #[#[1]] e) rfl (by rw[lM];lia) λx hx=>?_) rfl)));rintro⟨n,hn',rfl⟩:mem_map.mp hx;rintro⟨ks,q',hd⟩:(hn n).mp hn';rintro⟨j,ej⟩:Tx (k:=k) X hi hc hd (hb n ks q' hd);exact#[_,rfl,d2 (dm rfl (ar rfl (ar rfl rfl)) ej) rfl rfl]
 |_=>exact ce (gF 43 rfl) (wit (bb (d2 #[#[0]] rfl neT)) (Ax rfl rfl))
include K in
theorem T2 {a b:Option Str} (h:cy rs a b):cN (k + 3) 46 [lo false rs tel num,.p (oP a),.p (oP b)]= .ok (bC true):=by
 rcases h with rfl|rfl|⟨x,y,l,rfl,rfl,h1,h2⟩
 .exact ce (gF 44 rfl) (wit (Qu (bb #[rfl])) (Ax rfl rfl))
 .cases a with
  |none=>exact ce (gF 44 rfl) (wit (Qu (bb #[rfl])) (Ax rfl rfl))
  |some x=>exact ce (gF 44 rfl) (wit (CV (bb #[rfl]) (bb #[eqT])) (Ax rfl rfl))
 .obtain⟨fs,e,g1,g2⟩:=GH (k:=k) X K h1;have ne:x≠y:=λe=>Nat.lt_irrefl _ (e▸(K y l h1 x h2).1)
  refine ce (gF 44 rfl) (Ag (CV (bb #[rfl]) (bb #[Bc (dF ne)])) (Ax (E7 #[rfl] (d2 rfl (Hg rfl rfl e) ?_)) rfl));show((IL (.p (.str x)) (.lst true (fs.map P.str))).map bC)=_;rw[PU,show fs.contains x=true from by simpa using g2 x h2];rfl
omit X in
theorem G5 {ps qs:List P}:Jf (.p (.tup [.tup ps,.tup qs]))=some ((ps.zip qs).map λq=>.tup [q.1,q.2]):=rfl
include K in
theorem JT (hr:r∈rs) (g:Gd rs r):cN (k + 4) 47 [lo false rs tel num,.p r.p]= .ok (bC false):=by
 cases r with
 |Af c q l=>
   rintro⟨⟨el,hc,he⟩,_⟩:g;have hl:=(X.ok _ hr).2.2.1;refine ce (gF 45 rfl) (Ag (bb (d2 #[#[0]] rfl Xy)) (EI (λj U=>∃y z,U=[some (lo false rs tel num),sP (Row.Af c q l).p,y,z]) (Hg rfl #[#[1]] (DL X hc)) rfl #[none,none,rfl] ?_ ?_))
   .rintro j x hx _ ⟨y,z,rfl⟩
    rw[List.getElem?_map]at hx;rintro⟨e,hx',rfl⟩:oM hx;rintro⟨l',hh,hf⟩:he e (mem_of_getElem? hx');rintro⟨i,hi⟩:mem_iff_getElem?.mp hh;refine#[_,rfl,Am (dm rfl (ar rfl (ar #[#[2]] rfl)) (Es X hi)) (Ag (bb #[rfl]) (Ag (GY (bb (ZE (xs:=((l'.map oP).zip (l.map oP)).map λq=>.tup [q.1,q.2]) (d2 (Hg rfl rfl (JO X hi)) #[#[3]] rfl) G5 ?_ λx hx=>?_))) #[_,_,rfl]))]
    .rw[lM,length_zip,lM,lM];lia
    .rw[List.zip_map]at hx;rintro⟨_,h1,rfl⟩:mem_map.mp hx;rintro⟨⟨a,b⟩,h2,rfl⟩:mem_map.mp h1;exact#[_,rfl,dc (ar rfl (ar rfl (ar rfl rfl))) (T2 X K (hf (a,b) h2))]
   .rintro _ ⟨y,z,rfl⟩
    exact Ax rfl rfl
 |_=>exact ce (gF 45 rfl) (wit (bb (d2 #[#[0]] rfl neT)) (Ax rfl rfl))
theorem Cm{f:Nat}(h:∀r∈rs,cN (k + 1) f [lo false rs tel num,.p r.p]= .ok (bC false)):cN (k + 2) 48 [lo false rs tel num,.p (.fn f [])]= .ok (.p .AG):=by
 refine ce (gF 46 rfl) (EI (λj U=>∃y z,U=[some (lo false rs tel num),sP (.fn f []),y,z]) (dm rfl rfl (Ir X)) rfl #[none,none,rfl] ?_ ?_)
 .rintro j x hx _ ⟨y,z,rfl⟩
  rintro⟨x,hx',rfl⟩:G1 hx;rw[List.getElem?_map]at hx';rintro⟨r,hj,rfl⟩:oM hx';exact#[_,rfl,Ag (bb (di rfl (ar rfl (ar rfl rfl)) (h r (mem_of_getElem? hj)))) #[_,_,rfl]]
 .rintro _ ⟨y,z,rfl⟩
  exact Ax rfl rfl
include K in
theorem Sw (nd:(Dr++rs.flatMap told).Nodup) (g:∀r∈rs,Gd rs r):cN (k + 6) 49 [lo false rs tel num]= .ok (.p .AG):=
 ce (gF 47 rfl) (Am (BL (dm rfl rfl (Ir X)) (Kx X.ok X.hl nd)) (Ag (bb #[rfl]) (Am (EB rfl rfl (Cm X λr hr=>nothing X K hr (g r hr))) (Ag (bb #[rfl]) (Am (EB rfl rfl (Cm X λr hr=>KY X hr (g r hr))) (Ag (bb #[rfl]) (Am (EB rfl rfl (Cm X λr hr=>SW X K hr)) (Ag (bb #[rfl]) (Am (EB rfl rfl (Cm X λr hr=>L7 X hr (g r hr))) (Ag (bb #[rfl]) (Am (EB rfl rfl (Cm X λr hr=>L9 X hr (g r hr))) (Ag (bb #[rfl]) (Am (EB rfl rfl (Cm X λr hr=>JT X K hr (g r hr))) (Ag (bb #[rfl]) rfl))))))))))))))
end
structure Wf(rk:Str->Nat)(rs:List Row):Prop where
 ok:∀r∈rs,r.ok
 hl:rs.length<=40
 nd:(Dr++rs.flatMap told).Nodup
 rk:Rk rk rs
 g:∀r∈rs,Gd rs r
theorem Sv{k:Nat}{rk:Str->Nat}(w:Wf rk rs):∃tel num,Lr rs tel num/\cN (k + 12) 69 [.obj true [],.lst true (rs.map Row.p)]= .ok (lo true rs tel num):=by
 have nd:((own++rs).flatMap told).Nodup:=by
  refine List.Nodup.sublist ?_ w.nd;rw[flatMap_append];exact List.Sublist.append (List.sublist_append_left _ _) (List.Sublist.refl _)
 rintro⟨tel,num,h1,h2,e⟩:init (k:=k) w.ok w.hl nd λtel num d1 d2=>Sw (k:=k+5) #[d1,d2,nd,w.ok,w.hl] w.rk w.nd w.g
 exact#[tel,num,#[h1,h2,nd,w.ok,w.hl],e]
theorem BH{n j:Nat}{x:P}(h:(Az 0 n)[j]? =some x):j < n/\x= .int j:=by
 unfold Az at h;rw[List.getElem?_map]at h;rintro⟨i,h1,rfl⟩:oM h;rintro⟨h2,h3⟩:List.getElem?_eq_some_iff.mp h1;rw[List.getElem_range]at h3;subst h3;rw[length_range]at h2;exact#[by lia,by simp]
theorem Cd{n:Nat}(h:n < 1000):DP (.p (.int n))=some (Az 0 n):=iP (show(n:Int).natAbs < 2 ^ 61 by rw[Int.natAbs_natCast];exact Nat.lt_trans h #[])
theorem Bj(n:Nat):(Az 0 n).length=n:=by simp[Az]
section
variable{k:Nat}{rs:List Row}{c q:Str}{ps:List P}
def UB:P->List P
 |.tup ps=>ps.take 3
 |_=>[]
def hq(c q:Str):P:=.tup [.str "house",.str c,.str q]
theorem WX{r:Row}(h:r.ok):Ol (.p r.p) (.p (.int 3))=some (.p (.tup (UB r.p)))/\BM (.tup (UB r.p)) (hq c q)=true/\(P.tup (UB r.p)).depth<=90:=by
 have dS:∀l:List Str,P.Bi (l.map P.str)=0:=λl=>by
  induction l with
  |nil=>rfl
  |cons a l ih=>show max 0 _=0;rw[ih];rfl
 cases r with
 |ask e=>cases e<;>exact#[rfl,rfl,Nat.le_of_ble_eq_true rfl]
 |cls n l=>refine#[rfl,rfl,?_];show max 0 (max 0 (max (P.Bi (l.map P.str)+1) 0))+1<=90;rw[dS];decide
 |once d n e=>refine#[rfl,rfl,?_];show max 0 (max 0 (max (P.Bi ((Jj n).map P.str)+1) 0))+1<=90;rw[dS];decide
 |_=>exact#[rfl,rfl,Nat.le_of_ble_eq_true rfl]
theorem PY{r:Row}:P.tup (UB r.p)=hq c q↔∃l,r= .Af c q l:=by
 constructor
 .intro h;have h:UB r.p=[.str "house",.str c,.str q]:=by injection h
  cases r with
  |Af c' q' l=>
    have h:[P.str "house",.str c',.str q']=[.str "house",.str c,.str q]:=h;simp at h;rw[h.1,h.2];exact#[l,rfl]
  |_=>exact absurd (show(some (P.str _):Option P)=some (.str "house")from congrArg List.head? h) (by decide +kernel)
 .rintro⟨l,rfl⟩;rfl
theorem Nb{x:List P}(ok:∀r∈rs,r.ok)(hl:rs.length<=40):∃y:P,cN (k + 1) 65 [.lst false (rs.map Row.p),.p (.str c),.p (.tup (.str q::x))]= .ok (.p y)/\((∃i l,rs[i]? =some (.Af c q l)/\y= .int (i:Nat))\/(∀l,.Af c q l∉rs)/\y= .AG):=by
 rintro⟨_,e,y,rfl,h⟩:cw (k:=k) (args:=[.lst false (rs.map Row.p),.p (.str c),.p (.tup (.str q::x))]) (R:=λz=>∃y:P,z= .p y/\((∃i l,rs[i]? =some (.Af c q l)/\y= .int (i:Nat))\/(∀l,.Af c q l∉rs)/\y= .AG)) (gF 63 rfl) (by
  have hr:DP (.p (.int (rs.map Row.p).length))=some (Az 0 rs.length):=by rw[lM];exact Cd (by lia)
  refine EI (λj U=>(∃y,U=[sL false (rs.map Row.p),sS c,sP (.tup (.str q::x)),y])/\∀i,i < j->∀l,rs[i]?≠some (.Af c q l)) (d1 rfl (B0 _)) hr #[#[none,rfl],λi h=>absurd h (Nat.not_lt_zero _)] ?_ ?_
  .rintro j y hy _ ⟨⟨z,rfl⟩,hn⟩
   rintro⟨hj,rfl⟩:BH hy;have hr:rs[j]? =some rs[j]:=List.getElem?_eq_getElem hj;rintro⟨e1,e2,e3⟩:WX (c:=c) (q:=q) (ok rs[j] (getElem_mem hj));have es:Ae (.lst false (rs.map Row.p)) (.p (.int j))=some (.p rs[j].p):=AA rfl (by rw[List.getElem?_map,hr];rfl);have eq:Bd (.p (.tup (UB rs[j].p))) (.p (hq c q))=some (bC (decide (P.tup (UB rs[j].p)=hq c q))):=by unfold Bd;rw[ae e2 e3];rfl
   refine#[_,rfl,?_]
   by_cases h:P.tup (UB rs[j].p)=hq c q
   .rw[dZ h]at eq;rintro⟨l,hl⟩:PY.mp h;exact wit (bb (d2 (d2 #[es] rfl e1) (dt (fz rfl (fz rfl (fz #[#[0]] rfl)))) eq)) (MK #[_,rfl,.inl #[j,l,by rw[hr,hl],rfl]])
   .rw[dF h]at eq;refine Ag (bb (d2 (d2 #[es] rfl e1) (dt (fz rfl (fz rfl (fz #[#[0]] rfl)))) eq)) #[#[_,rfl],λi hi l=>?_];rcases Nat.lt_succ_iff_lt_or_eq.mp hi with hi|rfl
    .exact hn i hi l
    .rw[hr];intro z;exact h (PY.mpr #[l,Option.some.inj z])
  .rintro _ ⟨⟨z,rfl⟩,hn⟩
   rw[Bj]at hn
   exact Ax rfl #[_,rfl,.inr #[λl hm=>by rintro⟨i,hi⟩:mem_iff_getElem?.mp hm;exact hn i (List.getElem?_eq_some_iff.mp hi).1 l hi,rfl]])
 exact#[y,e,h]
end
def PR(rs:List Row):Nat->P->Prop
 |0,_=>False
 |n+1,x=>∃q ps,x= .tup (.str q::ps)/\ps.length<=3/\(∀y∈ps,PR rs n y)/\∃fs,.kind q ps.length fs∈own++rs
section
variable {k:Nat}{rs:List Row}{tel num:List (P×P)}(X:Lr rs tel num)
theorem Sr{i j:Nat}(h:P.int (i:Int)= .int (j:Int)):i=j:=by injection h with h;exact_mod_cast h
include X
theorem Pz{m m':Nat}{f f':List (Str×List Kd)}(h: .kind q m f∈own++rs)(h': .kind q m' f'∈own++rs):m=m':=by
 have a:=EN X h (y:=["kind",q]) (by simp[told]);rw[EN X h' (y:=["kind",q]) (by simp[told])]at a;have a:[P.str "kind",.str q,.int m',.tup (f'.map fP)]=[P.str "kind",.str q,.int m,.tup (f.map fP)]:=by injection a with a;injection a
 injection a with _ a
 injection a with _ a
 injection a with a _
 exact(Sr a).symm
structure Tr(rs:List Row)(tel num:List (P×P))(k k2:Nat)(o:Bool)(c:Str)(x t:P)(b:Bool):Prop where
 tr:cN k 4 [lo false rs tel num,.lst o [],.p (.str c),.p x]= .ok (.p t)
 lk:cN k2 67 [.lst false (rs.map Row.p),.p (.str c),.p x]= .ok (bC b)
 no:t= .AG->b=true
 wk:t≠.AG->cN k2 66 [.lst false (rs.map Row.p),.p t,.p (.str c),.p x]= .ok (bC true)
omit X in
theorem LM {l:List (Option Str)} {ps:List P} {j:Nat} {x:P} (h:((((l.map oP).zip ps).map λq=>P.tup [q.1,q.2]))[j]? =some x):∃o y,l[j]? =some o/\ps[j]? =some y/\x= .tup [oP o,y]:=by
 rw[List.getElem?_map]at h;rintro⟨⟨a,y⟩,h1,rfl⟩:oM h;rintro⟨h2,h3⟩:List.getElem?_zip_eq_some.mp h1;rw[List.getElem?_map]at h2;rintro⟨o,h4,rfl⟩:oM h2;exact#[o,y,h4,h3,rfl]
def Rl(rs:List Row)(k:Nat)(o:Option Str)(u t:P):Prop:=(o=none/\t= .AG)\/∃e,o=some e/\t≠.AG/\cN k 66 [.lst false (rs.map Row.p),.p t,.p (.str e),.p u]= .ok (bC true)
def cj(rs:List Row)(k:Nat)(l:List (Option Str))(ps ts:List P):Prop:=∀(m:Nat) (o:Option Str) (u t:P),l[m]? =some o->ps[m]? =some u->ts[m]? =some t->Rl rs k o u t
theorem LQ{k2:Nat}(g:∀r∈rs,Gd rs r):∀(n:Nat) (o:Bool) (c:Str) (x:P),PR rs n x->∃t b,Tr rs tel num (k + n + 2) (k2 + n + 2) o c x t b
 |0,_,_,_,h=>h.elim
 | n + 1, o,c,_,⟨q,ps,rfl,h3,hp,fs,hf⟩=>by
   have ih:=LQ (k2:=k2) g n false;rintro⟨y,ey,hy⟩:Nb (k:=k2+n+1) (rs:=rs) (c:=c) (q:=q) (x:=ps) X.ok X.hl;have sl:M1 (.p (.tup (.str q::ps))) (.p (.int 1))=some (.p (.tup ps)):=Om;rcases hy with⟨i,l,hi,rfl⟩|⟨hn,rfl⟩
   rotate_left
   .exact#[.AG,true,ce (gF 3 rfl) (Ag (bb (d1 rfl rfl)) (Am (dm rfl (ar rfl (ar #[#[0]] rfl)) (PV X hn)) (wit (bb #[rfl]) (Ax rfl rfl)))),ce (gF 65 rfl) (Am (dc (ar rfl (ar rfl (ar rfl rfl))) ey) (wit (bb #[rfl]) (Ax rfl rfl))),λ_=>rfl,λh=>absurd rfl h]
   have hll:l.length=ps.length:=by rintro⟨_,⟨fs',hf'⟩,_⟩:g _ (mem_of_getElem? hi);exact Pz X hf' hf
   have ihs:∀(m:Nat) (e:Str) (u:P),l[m]? =some (some e)->ps[m]? =some u->∃t b,Tr rs tel num (k+n+2) (k2+n+2) false e u t b:=λm e u _ hu=>ih e u (hp u (mem_of_getElem? hu))
   have es:Ae (.lst false (rs.map Row.p)) (.p (.int i))=some (.p (Row.Af c q l).p):=AA rfl (by rw[List.getElem?_map,hi];rfl)
   obtain ⟨_,et,t,rfl,ht⟩:=cw (k:=k + n + 2) (args:=[lo false rs tel num,.lst o [],.p (.str c),.p (.tup (.str q::ps))]) (R:=λz=>∃t,z= .p t/\((t= .AG/\∃(m:Nat) (e:Str) (u:P),l[m]? =some (some e)/\ps[m]? =some u/\cN (k2 + n + 2) 67 [.lst false (rs.map Row.p),.p (.str e),.p u]= .ok (bC true))\/∃ts:List P,t= .tup [.str "house",.int i,.tup ts]/\ts.length=l.length/\cj rs (k2 + n + 2) l ps ts)) (gF 3 rfl) (by
    refine Ag (bb (d1 rfl rfl)) (Am (dm rfl (ar rfl (ar #[#[0]] rfl)) (Es X hi)) (Ag (bb #[rfl]) (Am (dl rfl) (EI (xs:=((l.map oP).zip ps).map λq=>.tup [q.1,q.2]) (λj U=>∃(ts:List P) (y z w:Option C),U=[some (lo false rs tel num),sL o [],sS c,sP (.tup (.str q::ps)),sI i,sL true ts,y,z,w]/\ts.length=j/\cj rs (k2+n+2) l ps ts) (d2 (Hg rfl rfl (JO X hi)) #[sl] rfl) G5 #[[],none,none,none,rfl,rfl,λm o u t _ _ h=>by cases h] ?_ ?_))))
    .rintro j x hx _ ⟨ts,y,z,w,rfl,hj,hR⟩
     rintro⟨o',u,ho,hu,rfl⟩:LM hx;have hjl:=(List.getElem?_eq_some_iff.mp hu).1
     have more:∀t,Rl rs (k2 + n + 2) o' u t->cj rs (k2 + n + 2) l ps (ts++[t]):=λt ht m o u t' h1 h2 h3=>by
      rw[List.getElem?_append]at h3;split at h3
      .exact hR m o u t' h1 h2 h3
      .rename_i hm;have:m=j:=by have:=(List.getElem?_eq_some_iff.mp h3).1;simp at this;lia
       subst this;rw[hj,Nat.sub_self]at h3;rw[ho]at h1;rw[hu]at h2;cases h1;cases h2;cases h3;exact ht
     refine#[_,rfl,?_];cases o' with
     |none=>exact Am (bP (bb #[rfl]) rfl) (Ag (UO (bb #[rfl])) (Jh (ps:=ts) (p:=.AG) rfl (by lia) #[ts++[.AG],_,_,_,rfl,by simp[hj],more _ (.inl #[rfl,rfl])]))
     |some e=>
       rintro⟨t,b,T⟩:ihs j e u ho hu;refine Am (ZD (bb #[rfl]) (dc (ar rfl (ar rfl (ar rfl (ar rfl rfl)))) T.tr)) ?_
       by_cases htn:t= .AG
       .subst htn;have hb:=T.no rfl;subst hb;exact wit (Qz (bb #[rfl]) (bb #[rfl])) (Ax rfl #[_,rfl,.inl #[rfl,j,e,u,ho,hu,T.lk]])
       .exact Ag (Qz (bb #[rfl]) (bb #[show Ft (.p t) (.p .AG)=some (bC false)from congrArg (λb=>some (bC b)) (dF htn)])) (Jh (ps:=ts) (p:=t) rfl (by lia) #[ts++[t],_,_,_,rfl,by simp[hj],more _ (.inr #[e,rfl,htn,T.wk htn])])
    .rintro _ ⟨ts,y,z,w,rfl,hj,hR⟩
     rw[lM,length_zip,lM,hll,Nat.min_self]at hj
     exact Ax (dt (fz rfl (fz rfl (fz (d1 rfl rfl) rfl)))) #[_,rfl,.inr #[ts,rfl,by rw[hj,hll],hR]])
   rintro⟨_,el,b,rfl,hb⟩:cw (k:=k2 + n + 2) (args:=[.lst false (rs.map Row.p),.p (.str c),.p (.tup (.str q::ps))]) (R:=λz=>∃b,z=bC b/\(b=false->∀(m:Nat) (e:Str) (u:P),l[m]? =some (some e)->ps[m]? =some u->cN (k2 + n + 2) 67 [.lst false (rs.map Row.p),.p (.str e),.p u]= .ok (bC false))) (gF 65 rfl) (by
    refine Am (dc (ar rfl (ar rfl (ar rfl rfl))) ey) (Ag (bb #[rfl]) (EI (xs:=((l.map oP).zip ps).map λq=>.tup [q.1,q.2]) (λj U=>(∃y z,U=[sL false (rs.map Row.p),sS c,sP (.tup (.str q::ps)),sI i,y,z])/\∀(m:Nat) (e:Str) (u:P),m < j->l[m]? =some (some e)->ps[m]? =some u->cN (k2+n+2) 67 [.lst false (rs.map Row.p),.p (.str e),.p u]= .ok (bC false)) (d2 (d2 #[es] rfl #[3]) #[sl] rfl) G5 #[#[none,none,rfl],λm e u h=>absurd h (Nat.not_lt_zero _)] ?_ ?_))
    .rintro j x hx _ ⟨⟨y,z,rfl⟩,hR⟩
     rintro⟨o',u,ho,hu,rfl⟩:LM hx;refine#[_,rfl,?_];cases o' with
     |none=>exact Ag (UO (bb #[rfl])) #[#[_,_,rfl],λm e u' hm h1 h2=>(Nat.lt_succ_iff_lt_or_eq.mp hm).elim (λh=>hR m e u' h h1 h2) λh=>by subst h;rw[ho]at h1;cases h1]
     |some e=>
       rintro⟨t,b,T⟩:ihs j e u ho hu;cases b with
       |true=>exact wit (Qz (bb #[rfl]) (bb (dc (ar rfl (ar rfl (ar rfl rfl))) T.lk))) (Ax rfl #[true,rfl,λh=>by cases h])
       |false=>exact Ag (Qz (bb #[rfl]) (bb (dc (ar rfl (ar rfl (ar rfl rfl))) T.lk))) #[#[_,_,rfl],λm e u' hm h1 h2=>(Nat.lt_succ_iff_lt_or_eq.mp hm).elim (λh=>hR m e u' h h1 h2) λh=>by subst h;rw[ho]at h1;rw[hu]at h2;cases h1;cases h2;exact T.lk]
    .rintro _ ⟨⟨y,z,rfl⟩,hR⟩
     rw[lM,length_zip,lM,hll,Nat.min_self]at hR
     exact Ax rfl #[false,rfl,λ_ m e u h1 h2=>hR m e u (List.getElem?_eq_some_iff.mp h2).1 h1 h2])
   refine#[t,b,et,el,λh=>?_,λh=>?_]
   .rcases ht with⟨_,m,e,u,h1,h2,h4⟩|⟨ts,rfl,_⟩
    .cases b with
     |true=>rfl
     |false=>have:=hb rfl m e u h1 h2;rw[h4]at this;cases this
    .cases h
   .rcases ht with⟨h',_⟩|⟨ts,rfl,htl,hR⟩
    .exact absurd h' h
    .refine ce (gF 64 rfl) (Ag (CV (GY (bb (d1 rfl rfl))) (CV (bb (d2 (d1 rfl (Av _)) rfl (NL rfl))) (CV (bb (d2 #[#[0]] rfl Xy)) (GY (bb (d1 #[#[2]] rfl)))))) (Ag (CV (bb (d1 #[#[1]] rfl)) (CV (bb (d2 #[#[1]] (dc (ar rfl (ar rfl (ar rfl rfl))) ey) (NL rfl))) (bb (d2 (d1 #[#[2]] (Av _)) (d2 (d1 rfl (Av _)) rfl rfl) (NL (by rw[htl,hll];simp)))))) (EI (λj U=>∃y z,U=[sL false (rs.map Row.p),sP (.tup [.str "house",.int i,.tup ts]),sS c,sP (.tup (.str q::ps)),y,z]) (d1 #[#[2]] (Av _)) (Cd (by lia)) #[none,none,rfl] ?_ ?_)))
     .rintro j x hx _ ⟨y,z,rfl⟩
      rintro⟨hj,rfl⟩:BH hx;have hl':l[j]? =some l[j]:=List.getElem?_eq_getElem (by lia);have hp':ps[j]? =some ps[j]:=List.getElem?_eq_getElem (by lia);have ht':ts[j]? =some ts[j]:=List.getElem?_eq_getElem hj;have e5:Ae (.p (.tup (l.map oP))) (.p (.int j))=some (.p (oP l[j])):=AA rfl (by rw[List.getElem?_map,hl'];rfl);have e6:Ae (.p (.tup ts)) (.p (.int j))=some (.p ts[j]):=AA rfl ht';have e7:Ae (.p (.tup (.str q::ps))) (.p (.int ((j+1:Nat):Int)))=some (.p ps[j]):=AA rfl (by rw[List.getElem?_cons_succ];exact hp');refine#[_,rfl,Am (d2 (d2 (d2 rfl #[#[1]] es) rfl #[3]) rfl e5) ?_];rcases hR j _ _ _ hl' hp' ht' with⟨h1,h2⟩|⟨e,h1,h2,h4⟩
      .rw[h1];rw[h2]at e6;exact wit (bb #[rfl]) (Ag (bb (d2 (d2 #[#[2]] rfl e6) rfl rfl)) (Cn #[_,_,rfl]))
      .rw[h1];exact XT (bb #[rfl]) (Ag (GY (bb (dc (ar rfl (ar (d2 #[#[2]] rfl e6) (ar rfl (ar (d2 rfl #[show Ad (.p (.int j)) (.p (.int 1))=some (.p (.int ((j+1:Nat):Int)))from rfl] e7) rfl)))) h4))) (Cn #[_,_,rfl]))
     .rintro _ ⟨y,z,rfl⟩
      exact Ax rfl rfl
end
theorem AK(i j:Int):Ad (.p (.int i)) (.p (.int j))=some (.p (.int (i+j))):=rfl
theorem D6(i:Int)(h:0 < j):Aw Dt (.p (.int i)) (.p (.int j))=some (.p (.int (i % j))):=by
 show((if 0 < j then some (i%j)else none).map λk=>C.p (.int k))=_;rw[iP h];rfl
theorem Df(i:Int)(h:0 < j/\j < 1073741824):Aw Ez (.p (.int i)) (.p (.int j))=some (.p (.int (i / j))):=by
 show((if 0 < j/\j < 1073741824 then some (i/j)else none).map λk=>C.p (.int k))=_;rw[iP h];rfl
theorem HA{i:Int}(h:(-(2 ^ 64) < i/\i < 2 ^ 64)\/(-(2 ^ 64) < j/\j < 2 ^ 64)):mulC (.p (.int i)) (.p (.int j))=some (.p (.int (i * j))):=by
 show(((if(-(2 ^ 64) < i/\i < 2 ^ 64)\/(-(2 ^ 64) < j/\j < 2 ^ 64)then some (i*j)else none).map λk=>C.p (.int k)))=_;rw[iP h];rfl
theorem Hl{N N':Env->Prop}{R R':C->Prop}(h1:∀U,N U->N' U)(h2:∀c,R c->R' c)(h:WP r N R):WP r N' R':=by
 cases r<;>first|exact h1 _ h|exact h2 _ h|exact h
section
variable{k:Nat}{o:Bool}
theorem X6(i j:Int):Bd (.p (.int i)) (.p (.int j))=some (bC (decide (i=j))):=by unfold Bd;rw[af];rfl
theorem bq(i j:Int):Em (.p (.int i)) (.p (.int j))=some (bC (!decide (i=j))):=by unfold Em;rw[af];rfl
theorem DR{i j:Int}(h:i≠j):Bd (.p (.int i)) (.p (.int j))=some (bC false):=by rw[X6,dF h]
theorem mixed(ns:List Int)(i:Nat)(hi:i<=100):∃c:Int,0<=c/\cN (k + 1) 50 [.lst o (ns.map P.int),.p (.int i)]= .ok (.p (.int c)):=by
 have fin:∀v:Int,0<=v->v < 2147483629->WP (k<<<(dE.drop 2)>>>[sL o (ns.map P.int),sI i,sI v]) (λ_=>False) (λz=>∃c:Int,0<=c/\z= .p (.int c)):=λv h1 h2=>
  Ax (d2 (d2 (d2 (d2 (d2 #[HA (.inl #[by lia,by lia])] #[HA (.inl #[by decide,by decide])] (AK _ _)) (d2 #[HA (.inl #[by decide,by decide])] rfl (HA (.inr #[by lia,by lia]))) (AK _ _)) rfl (AK _ _)) rfl (HA (.inr #[by decide,by decide]))) rfl (D6 _ #[])) #[_,Int.emod_nonneg _ #[],rfl]
 have key:∃z,cN (k + 1) 50 [.lst o (ns.map P.int),.p (.int i)]= .ok z/\∃c:Int,0<=c/\z= .p (.int c):=by
  by_cases h:i < ns.length
  .have e:Ae (.lst false (ns.map P.int)) (.p (.int i))=some (.p (.int ns[i])):=AA rfl (by rw[List.getElem?_map,List.getElem?_eq_getElem h];rfl);refine cw (gF 48 rfl) (Am rfl (wit (bb (d2 rfl (d1 rfl (B0 _)) (JP (by simp;exact h)))) (Am (d2 #[e] rfl (D6 _ #[])) (Cn ?_))));have:=fin (ns[i]%2147483629) (Int.emod_nonneg _ #[]) (Int.emod_lt_of_pos _ #[])
   revert this
   exact Hl (λ_ h=>h.elim) λz h=>h
  .obtain⟨z,hz⟩:∃z:Int,z=0:=#[0,rfl];refine cw (gF 48 rfl) (Am (c:=.p (.int z)) (by rw[hz];rfl) (Ag (bb (d2 rfl (d1 rfl (B0 _)) (FG (by simp;lia)))) ?_));have:=fin z (by lia) (by lia)
   revert this
   exact Hl (λ_ h=>h.elim) λz h=>h
 rintro⟨z,e,c,h1,rfl⟩:key;exact#[c,h1,e]
end
theorem br{i:Int}(h:i≠j):Em (.p (.int i)) (.p (.int j))=some (bC true):=by rw[bq,dF h];rfl
structure K3(rs:List Row)(kk:Nat->Str):Prop where
 all:∀n m fs,.kind n m fs∈rs->m < 3/\n=kk m
 has:∀m,m < 3->∃fs,.kind (kk m) m fs∈rs
abbrev kL(o:Bool)(kk:Nat->Str):C:=.lst o [.str (kk 0),.str (kk 1),.str (kk 2)]
section
variable {k:Nat}{rs:List Row}{kk:Nat->Str}(H:K3 rs kk)
include H
theorem closed:∀(d:Nat) (c:Int),∃x,PR rs (d + 1) x/\cN (k + d + 1) 63 [.p (.int c),kL false kk,.p (.int d)]= .ok (.p x):=by
 have leaf:∀n q,(∃fs,.kind q 0 fs∈own++rs)->PR rs (n+1) (.tup [.str q]):=λn q h=>#[q,[],rfl,Nat.zero_le _,(λy hy=>by cases hy),h]
 have hw:∀(q:Str) m,m < 3->∃fs,.kind (kk m) m fs∈own++rs:=λ_ m h=>(H.has m h).imp λfs h=>mR h
 have two:∀(w:Int) d k c,0<=w->(∃fs,.kind "whole" 0 fs∈own++rs)->(∃fs,.kind "truth" 0 fs∈own++rs)->∃x,PR rs (d + 1) x/\k|||(.A1 Ae (.lst [(.tup [{"whole"}]),(.tup [{"truth"}])]) (.A1 (Aw Dt) {3} {2,0}))&&&[sI c,some (kL false kk),sI (d:Nat),sI w]= .ok (.p x):=λw d k c h0 h1 h2=>by
  have hm:w%2=0\/w%2=1:=by lia
  rcases hm with hm|hm
  .exact#[_,leaf d _ h1,d2 (dl (fz (dt (fz rfl rfl)) (fz (dt (fz rfl rfl)) rfl))) #[D6 w #[]] (by rw[hm];exact AA (i:=0) rfl rfl)]
  .exact#[_,leaf d _ h2,d2 (dl (fz (dt (fz rfl rfl)) (fz (dt (fz rfl rfl)) rfl))) #[D6 w #[]] (by rw[hm];exact AA (i:=1) rfl rfl)]
 have own1:∃fs,Row.kind "whole" 0 fs∈own++rs:=#[[],by simp[own]];have own2:∃fs,Row.kind "truth" 0 fs∈own++rs:=#[_,mL (mem_cons_of_mem _ mS)];intro d
 induction d with
 |zero=>
   intro c;obtain⟨w,hw'⟩:∃w,w=c%6:=#[_,rfl];have h0:0<=w:=by rw[hw'];exact Int.emod_nonneg _ #[]
   have h6:w < 6:=by rw[hw'];exact Int.emod_lt_of_pos _ #[]
   have e0:Aw Dt (.p (.int c)) (.p (.int 6))=some (.p (.int w)):=by rw[hw'];exact D6 c #[]
   by_cases h2:w=2
   .exact#[_,leaf 0 _ (hw "" 0 #[]),ce (gF 61 rfl) (Am #[e0] (Ag (CV (bb #[FG (by lia)]) (Qz (bb #[K4 rfl]) (bb #[NL h2]))) (wit (bb #[K4 h2]) (Ax (dt (fz #[#[0]] rfl)) rfl))))]
   .obtain⟨x,hx,ex⟩:=two w 0 k c h0 own1 own2;refine#[x,hx,ce (gF 61 rfl) (Am #[e0] (wit ?_ (Ax ex rfl)))]
    by_cases h1:w < 2
    .exact Qu (bb #[JP h1])
    .exact CV (bb #[FG h1]) (Qz (bb #[K4 rfl]) (bb #[br h2]))
 |succ d ih=>
   intro c;obtain⟨w,hw'⟩:∃w,w=c%6:=#[_,rfl];have h0:0<=w:=by rw[hw'];exact Int.emod_nonneg _ #[]
   have e0:Aw Dt (.p (.int c)) (.p (.int 6))=some (.p (.int w)):=by rw[hw'];exact D6 c #[]
   have es:Aw ER (.p (.int ((d+1:Nat):Int))) (.p (.int 1))=some (.p (.int d)):=by show some (C.p (.int (((d+1:Nat):Int)-1)))=_;rw[show((d+1:Nat):Int)-1=d by lia]
   have nz:((d+1:Nat):Int)≠0:=by lia
   by_cases h1:w < 2
   .obtain⟨x,hx,ex⟩:=two w (d+1) (k+(d+1)) c h0 own1 own2;exact#[x,hx,ce (gF 61 rfl) (Am #[e0] (wit (Qu (bb #[JP h1])) (Ax ex rfl)))]
   .have hd:∀{R:C->Prop} {N:Env->Prop},WP ((k+(d+1))<<<(cB.drop 2)>>>[sI c,some (kL false kk),sI ((d+1:Nat):Int),sI w]) N R->WP ((k+(d+1))<<<cB>>>[sI c,some (kL false kk),sI ((d+1:Nat):Int),none]) N R:=λh=>Am #[e0] (Ag (CV (bb #[FG h1]) (UO (bb #[DR nz]))) h)
    by_cases h2:w=2
    .exact#[_,leaf _ _ (hw "" 0 #[]),ce (gF 61 rfl) (hd (wit (bb #[K4 h2]) (Ax (dt (fz #[#[0]] rfl)) rfl)))]
    .obtain⟨x,hx,ex⟩:=ih (c/6)
     by_cases h5:w < 5
     .exact#[.tup [.str (kk 1),x],#[_,[x],rfl,Nat.le_of_ble_eq_true rfl,λy hy=>by rw[mE hy];exact hx,hw "" 1 #[]],ce (gF 61 rfl) (hd (Ag (bb #[DR h2]) (wit (bb #[JP h5]) (Ax (dt (fz #[#[1]] (fz (dc (ar #[Df c #[]] (ar rfl (ar #[es] rfl))) ex) rfl))) rfl))))]
     .obtain⟨y,hy,ey⟩:=ih (c/91);refine#[.tup [.str (kk 2),x,y],#[_,[x,y],rfl,Nat.le_of_ble_eq_true rfl,λz hz=>?_,hw "" 2 #[]],ce (gF 61 rfl) (hd (Ag (bb #[DR h2]) (Ag (bb #[FG h5]) (Ax (dt (fz #[#[2]] (fz (dc (ar #[Df c #[]] (ar rfl (ar #[es] rfl))) ex) (fz (dc (ar #[Df c #[]] (ar rfl (ar #[es] rfl))) ey) rfl)))) rfl))))];simp only[mem_cons,not_mem_nil,or_false]at hz;rcases hz with rfl|rfl
      .exact hx
      .exact hy
theorem dI{cf:CF}{U:Env}{ss:List S}{N:Env->Prop}{R:C->Prop}{i j:Nat}{ps:List P}(e:(den cf t).v U= .ok (.p p))(e2:(den cf u).v U= .ok (.p (.int j)))(hj:j < ps.length)(h:WP (execs cf As ss (U.set i (some (.lst true (ps.set j p))))) N R)(hg:A8 U i=some (.lst true ps)):WP (execs cf As (.Ce i false (Ds λc x k=>Dp c k x) [t,u]::ss) U) N R:=by
 refine NO (c:=.lst true ps) (ar e (ar e2 rfl)) ?_ h hg rfl;show(((II ps.length (j:Int)).map λk=>nw (ps.set k p)) <|> _)=_;unfold II;rw[iP (by lia),iP (by lia),Int.toNat_natCast];rfl
theorem La(hl:rs.length<=40):cN (k + 1) 64 [.lst false (rs.map Row.p)]= .ok (kL true kk):=by
 refine ce (gF 62 rfl) (Am (dl (fz rfl (fz rfl (fz rfl rfl)))) (R4 (λj U=>∃(f:Nat->Str) (y:Option C),U=[sL false (rs.map Row.p),some (kL true f),y]/\∀n m fs,.kind n m fs∈rs.take j->f m=kk m) rfl rfl #[λ_=>"",none,rfl,λn m fs h=>by cases h] ?_ ?_))
 .rintro j x hx _ ⟨f,y,rfl,hf⟩
  rw[List.getElem?_map]at hx;rintro⟨r,hr,rfl⟩:oM hx;refine#[_,rfl,?_];have tk:rs.take (j+1)=rs.take j++[r]:=by rw[take_add_one,hr];rfl
  by_cases hk:∃n m fs,r= .kind n m fs
  .obtain⟨n,m,fs,rfl⟩:=hk;rintro⟨hm,rfl⟩:H.all n m fs (mem_of_getElem? hr);refine wit (bb (d2 #[#[0]] rfl eqT)) (dI H (p:=.str (kk m)) (j:=m) (ps:=[.str (f 0),.str (f 1),.str (f 2)]) #[#[1]] #[#[2]] hm (Cn #[λi=>if i=m then kk m else f i,sP (Row.kind (kk m) m fs).p,?_,λn' m' fs' h=>?_]) rfl)
   .rcases(by lia:m=0\/m=1\/m=2)with rfl|rfl|rfl<;>rfl
   .show(if m'=m then kk m else f m')=kk m'
    by_cases e:m'=m
    .rw[iP e,e]
    .rw[iN e];rw[tk]at h;rcases mZ h with h|h
     .exact hf n' m' fs' h
     .cases mE h;exact absurd rfl e
  .refine Ag ?_ #[f,_,rfl,λn m fs h=>?_]
   .cases r with
    |kind n m fs=>exact absurd #[n,m,fs,rfl] hk
    |_=>exact bb (d2 #[#[0]] rfl Bc)
   .rw[tk]at h;rcases mZ h with h|h
    .exact hf n m fs h
    .exact absurd #[n,m,fs,(mE h).symm] hk
 .rintro _ ⟨f,y,rfl,hf⟩
  rw[lM,take_length]at hf;have e:∀m,m < 3->f m=kk m:=λm h=>let⟨fs,hm⟩:=H.has m h;hf _ m fs hm
  exact MK (c:=kL true f) (by show _=C.lst true [.str (f 0),.str (f 1),.str (f 2)];rw[e 0 #[],e 1 #[],e 2 #[]])
end
theorem C8{f:α->P}:∀{l:List α},(∀x∈l,BM (f x) (f x)=true)->BA (l.map f) (l.map f)=true
 |[],_=>rfl
 | a::l,h=>by
   show(BM (f a) (f a) && BA (l.map f) (l.map f))=true;rw[h a (.head _),C8 λx hx=>h x (.tail _ hx)];rfl
theorem C6{f:α->P}{d:Nat}:∀{l:List α},(∀x∈l,(f x).depth<=d)->P.Bi (l.map f)<=d
 |[],_=>Nat.zero_le _
 |a::l,h=>Nat.max_le.mpr #[h a (.head _),C6 λx hx=>h x (.tail _ hx)]
theorem BS{ps:List P}(h:BA ps ps=true):BM (.tup ps) (.tup ps)=true:=by
 show(decide ((P.tup ps).tag < 4) || BA ps ps)=true;rw[h,Bool.or_true]
theorem Ap{ps:List P}(h:BM p p=true)(h2:BA ps ps=true):BA (p::ps) (p::ps)=true:=by
 show(BM p p && BA ps ps)=true;rw[h,h2];rfl
theorem CC{ps:List P}{d:Nat}(h:P.Bi ps<=d):(P.tup ps).depth<=d+1:=Nat.succ_le_succ h
theorem AO{p:P}{ps:List P}{d:Nat}(h:p.depth<=d)(h2:P.Bi ps<=d):P.Bi (p::ps)<=d:=Nat.max_le.mpr #[h,h2]
theorem DH(k:Kd):BM k.p k.p=true/\k.p.depth<=2:=by
 cases k with
 |op i=>exact#[rfl,Nat.zero_le _]
 |mk n as=>exact#[BS (Ap rfl (C8 λl _=>by cases l<;>rfl)),CC (AO (Nat.zero_le _) (C6 λl _=>by cases l<;>exact Nat.le_of_ble_eq_true rfl))]
theorem BX(l:List Str):BM (.tup (l.map P.str)) (.tup (l.map P.str))=true/\(P.tup (l.map P.str)).depth<=5:=#[BS (C8 λ_ _=>rfl),CC (C6 λ_ _=>Nat.zero_le _)]
theorem DJ(e:Ex):BM e.p e.p=true/\e.p.depth<=5:=by cases e<;>exact#[rfl,Nat.le_of_ble_eq_true rfl]
theorem JA(r:Row):BM r.p r.p=true/\r.p.depth<=6:=by
 cases r with
 |kind n m fs=>exact#[BS (Ap rfl (Ap rfl (Ap rfl (Ap (BS (C8 λf _=>BS (Ap rfl (Ap (BS (C8 λk _=>(DH k).1)) rfl)))) rfl)))),CC (AO (Nat.zero_le _) (AO (Nat.zero_le _) (AO (Nat.zero_le _) (AO (CC (C6 (d:=4) λf _=>CC (AO (Nat.zero_le _) (AO (CC (C6 λk _=>(DH k).2)) (Nat.zero_le _))))) (Nat.zero_le _)))))]
 |cls n l=>exact#[BS (Ap rfl (Ap rfl (Ap (BX l).1 rfl))),CC (AO (Nat.zero_le _) (AO (Nat.zero_le _) (AO (BX l).2 (Nat.zero_le _))))]
 |Ba n c ks r=>exact#[BS (Ap rfl (Ap rfl (Ap rfl (Ap (BS (C8 λk _=>(DH k).1)) (Ap (DH r).1 rfl))))),CC (AO (Nat.zero_le _) (AO (Nat.zero_le _) (AO (Nat.zero_le _) (AO (CC (C6 (d:=4) λk _=>Nat.le_trans (DH k).2 #[])) (AO (Nat.le_trans (DH r).2 #[]) (Nat.zero_le _))))))]
 |Af c q l=>exact#[BS (Ap rfl (Ap rfl (Ap rfl (Ap (BS (C8 λo _=>by cases o<;>rfl)) rfl)))),CC (AO (Nat.zero_le _) (AO (Nat.zero_le _) (AO (Nat.zero_le _) (AO (CC (C6 λo _=>by cases o<;>exact Nat.zero_le _)) (Nat.zero_le _)))))]
 |once d n e=>exact#[BS (Ap rfl (Ap rfl (Ap (BX _).1 (Ap (DJ e).1 rfl)))),CC (AO (Nat.zero_le _) (AO (Nat.zero_le _) (AO (BX _).2 (AO (DJ e).2 (Nat.zero_le _)))))]
 |CS c q d n e=>exact#[BS (Ap rfl (Ap rfl (Ap rfl (Ap rfl (Ap (BX _).1 (Ap (DJ e).1 rfl)))))),CC (AO (Nat.zero_le _) (AO (Nat.zero_le _) (AO (Nat.zero_le _) (AO (Nat.zero_le _) (AO (BX _).2 (AO (DJ e).2 (Nat.zero_le _)))))))]
 |ask e=>exact#[BS (Ap rfl (Ap (DJ e).1 rfl)),CC (AO (Nat.zero_le _) (AO (DJ e).2 (Nat.zero_le _)))]
theorem RK(rs:List Row){o o':Bool}:Bd (.lst o (rs.map Row.p)) (.lst o' (rs.map Row.p))=some (bC true):=by
 show((if BA (rs.map Row.p) (rs.map Row.p)=true/\P.Bi (rs.map Row.p)<=90 then some (decide (rs.map Row.p=rs.map Row.p))else none)).map bC=_;rw[iP #[C8 λr _=>(JA r).1,Nat.le_trans (C6 λr _=>(JA r).2) #[]],dZ rfl];rfl
theorem eZ{f:Nat}{c:C}(e:(den cf t).v U= .ok x)(h:cf f [.obj true [],x]= .ok c)(hM:c.Jb=true):(den cf (.make f [t])).v U= .ok c:=by
 show(BK cf [t] U).bind (λcs=>(cf f (.obj true []::cs)).bind λc=>if c.Jb then .ok c else .stuck)=_;rw[ar e rfl];show(cf f [.obj true [],x]).bind _=_;rw[h];exact iP hM
theorem RL{i j:Nat}{hi:Int}{x:P}(h:(Az (i:Nat) hi)[j]? =some x):(i:Int) + j < hi/\x= .int ((i + j:Nat):Int):=by
 unfold Az at h;rw[List.getElem?_map]at h;rintro⟨m,h1,rfl⟩:oM h;rintro⟨h2,h3⟩:List.getElem?_eq_some_iff.mp h1;rw[List.getElem_range]at h3;subst h3;rw[length_range]at h2;exact#[by lia,by rw[Int.natCast_add]]
theorem WB{k:Nat}{ns:List Int}(hw:∃(rs:List Row) (rk:Str->Nat) (kk:Nat->Str),cN (k + 12) 62 [.lst false (ns.map P.int)]= .ok (.lst true (rs.map Row.p))/\Wf rk rs/\K3 rs kk):cN (k + 13) 68 [.lst false (ns.map P.int)]= .ok (bC true):=by
 rintro⟨rs,rk,kk,e1,W,H⟩:hw;rintro⟨tel,num,X,e4⟩:Sv (k:=k) W;have hl:=W.hl;refine ce (gF 66 rfl) (Am (BL rfl e1) (Am (BL rfl (La H hl)) (Am (Qi Row.p rs Fu (λr=>.str (FQ r)) rfl rfl (by lia) λr hr=>#[_,rfl,?_,λhp=>?_]) (Am (eZ (d1 rfl rfl) e4 rfl) (EI (xs:=Az ((9:Nat):Int) (if(10:Int) < (if((ns.map P.int).length:Int) < 21 then((ns.map P.int).length:Int)else 21)then(if((ns.map P.int).length:Int) < 21 then((ns.map P.int).length:Int)else 21)else 10)) (λj U=>∃y5 y6 y7 y8,U=[sL false (ns.map P.int),sL true (rs.map Row.p),some (kL true kk),sL true ((rs.filter Fu).map λr=>.str (FQ r)),some (lo true rs tel num),y5,y6,y7,y8]) (d2 rfl (d2 rfl (d2 rfl (d1 rfl (B0 _)) rfl) rfl) rfl) ?_ #[_,_,_,_,rfl] ?_ ?_)))))
 .cases r with
  |cls n l=>exact bb (d2 #[#[0]] rfl eqT)
  |_=>exact bb (d2 #[#[0]] rfl Bc)
 .cases r with
  |cls n l=>exact#[_,#[#[1]],rfl]
  |_=>cases hp
 .refine iP #[by decide,?_];have:∀a:Int,0<=a->(if(10:Int) < (if a < 21 then a else 21)then(if a < 21 then a else 21)else 10).natAbs < 2 ^ 61:=λa h=>by split<;>(try split)<;>lia
  exact this _ (by lia)
 .rintro j x hx _ ⟨y5,y6,y7,y8,rfl⟩
  rintro⟨hj,rfl⟩:RL hx;rintro⟨c,_,ec⟩:mixed (k:=k+11) (o:=false) ns (9+j) (by split at hj<;>(try split at hj)<;>lia);rintro⟨x,hx,ex⟩:closed (k:=k+8) H 3 c;refine#[_,rfl,Am (dc (ar (EB rfl rfl ec) (ar rfl (ar rfl rfl))) ex) (R4 (λi U=>∃y7 y8,U=[sL false (ns.map P.int),sL true (rs.map Row.p),some (kL true kk),sL false ((rs.filter Fu).map λr=>.str (FQ r)),some (lo true rs tel num),sI ((9+j:Nat):Int),sP x,y7,y8]) rfl rfl #[_,_,rfl] ?_ ?_)]
  .rintro i z hz _ ⟨y7,y8,rfl⟩
   rw[List.getElem?_map]at hz;rintro⟨r,hr,rfl⟩:oM hz;rintro⟨t,b,T⟩:LQ (k:=k+5) (k2:=k+6) X W.g 4 true (FQ r) x hx;refine#[_,rfl,Am (dc (ar rfl (ar rfl (ar rfl rfl))) (ce (gF 4 rfl) (Ax (dc (ar rfl (ar (dl rfl) (ar rfl (ar rfl rfl)))) T.tr) rfl))) ?_]
   by_cases ht:t= .AG
   .have hb:=T.no ht;subst ht hb;exact wit (bb #[rfl]) (Ag (GY (bb (dc (ar rfl (ar rfl (ar rfl rfl))) T.lk))) (Cn #[_,_,rfl]))
   .exact XT (bb #[show Ft (.p t) (.p .AG)=some (bC false)from congrArg (λb=>some (bC b)) (dF ht)]) (Ag (GY (bb (dc (ar rfl (ar rfl (ar rfl (ar rfl rfl)))) (T.wk ht)))) (Cn #[_,_,rfl]))
  .rintro _ ⟨y7,y8,rfl⟩
   exact Cn #[_,_,_,_,rfl]
 .rintro _ ⟨y5,y6,y7,y8,rfl⟩
  exact Ax (d2 (dm rfl rfl (Ir X)) rfl (RK rs)) rfl
theorem Qk{n d a:Nat}(h:a<=n):DS n d (some (a:Int))=a:=by
 show(if(a:Int) < 0 then((a:Int)+n).toNat else min (Int.toNat a) n)=a;rw[iN (by lia),Int.toNat_natCast];lia
theorem Th(ps:List α)(a:Nat)(h:a<=ps.length):cut ps none (some (a:Int))=ps.take a:=by
 unfold cut;rw[Qk h,show DS ps.length 0 none=0 from rfl];simp
theorem Tf(ps:List α)(a:Nat)(h:a<=ps.length):cut ps (some (a:Int)) none=ps.drop a:=by
 unfold cut;rw[Qk h,show DS ps.length ps.length none=ps.length from rfl,take_of_length_le (by simp)]
theorem Kz{l:List Nat}(h:l.length<=100):(sT l).length<=big:=show l.toArray.size<=100000 by simp;lia
theorem Ub(l:List Nat)(a:Nat)(h:a<=l.length)(hb:l.length<=100):Ol (.p (.str (sT l))) (.p (.int a))=some (.p (.str (sT (l.take a)))):=by
 show(if((none:Option Int).all (0<=·) && (some (a:Int)).all (0<=·))/\(sT l).length<=big then some (C.p (.str ⟨(cut (sT l).cps.toList none (some (a:Int))).toArray⟩))else none)=_;rw[iP #[by simp,Kz hb],Th _ a (by simpa using h)]
theorem Uc(l:List Nat)(a:Nat)(h:a<=l.length)(hb:l.length<=100):M1 (.p (.str (sT l))) (.p (.int a))=some (.p (.str (sT (l.drop a)))):=by
 show(if((some (a:Int)).all (0<=·) && (none:Option Int).all (0<=·))/\(sT l).length<=big then some (C.p (.str ⟨(cut (sT l).cps.toList (some (a:Int)) none).toArray⟩))else none)=_;rw[iP #[by simp,Kz hb],Tf _ a (by simpa using h)]
theorem EF(a b:List Nat)(h:a.length + b.length<=100):Ad (.p (.str (sT a))) (.p (.str (sT b)))=some (.p (.str (sT (a++b)))):=by
 show((if(sT a).length+(sT b).length<=big then some (C.p (.str (sT a++sT b)))else none) <|> _)=_;rw[iP (show(sT a).length+(sT b).length<=big from(by simp;lia:a.toArray.size+b.toArray.size<=100000))];show some (C.p (.str ⟨a.toArray++b.toArray⟩))=_;simp
theorem Uu(l:List Nat)(h:l.length<=100):AD (.p (.str (sT l)))=some (.p (.int l.length)):=len_str (by simp;lia)
def Jc:Str:="abcdefghijklmnopqrstuvwxyz"
def TV:Str:="ABCDEFGHIJKLMNOPQRSTUVWXYZ"
theorem QF:∀i:Fin 26,(signs Jc)[i.val]? =some (sign (97+i.val))/\(signs TV)[i.val]? =some (sign (65+i.val)):=by decide +kernel
theorem Ed{i:Nat}(h:i < 26):Ae (.p (.str Jc)) (.p (.int i))=some (.p (.str (sT [97+i]))):=AA (show(if Jc.length<=big then some (signs Jc)else none)=_ from iP #[]) (QF #[i,h]).1
theorem LY{i:Nat}(h:i < 26):Ae (.p (.str TV)) (.p (.int i))=some (.p (.str (sT [65+i]))):=AA (show(if TV.length<=big then some (signs TV)else none)=_ from iP #[]) (QF #[i,h]).2
theorem Al(c:Int){m:Nat}(h:0 < m):∃o:Nat,o < m/\c % (m:Int)=o:=by
 have h1:=Int.emod_nonneg c (b:=(m:Int)) (by lia);have h2:=Int.emod_lt_of_pos c (b:=(m:Int)) (by lia);exact#[(c%(m:Int)).toNat,by lia,by lia]
theorem JB{n:Nat}(h:n < 1000):DP (.p (.int n))=some ((List.range n).map λi=>.int (i:Nat)):=by
 rw[Cd h];unfold Az;rw[show((n:Int)-0).toNat=n by lia];exact congrArg some (map_congr_left λi _=>by simp)
theorem Kk{l:List Nat}{i:Nat}(hl:l.all small=true)(hi:i < 26):(l++[97 + i]).all small=true:=by
 rw[all_append,hl];simp[small];lia
def E2(l r:List Nat)(j:Nat):Str:=sT (l++(97+j)::r)
theorem Ws{l r:List Nat}{i j:Nat}(h:E2 l r i=E2 l r j):i=j:=by
 have h1:=congrArg Array.toList (congrArg Str.cps h);simpa[E2]using h1
theorem Sl{l r:List Nat}{j:Nat}(hl:l.all small=true)(hr:r.all small=true)(hn:l.length + r.length<=7)(hj:j < 26):Ah (E2 l r j)=true:=by
 show(decide (1<=(l++(97+j)::r).length) && decide ((l++(97+j)::r).length<=8) && (l++(97+j)::r).all small)=true;rw[all_append,all_cons,hl,hr,show small (97+j)=true from by simp[small];lia];simp;lia
def Hf:List Str:=["whole","truth","plus","minus","under"]
theorem Kn{l:List Nat}(h:l.all small=true)(a:Nat):(l.take a).all small=true/\(l.drop a).all small=true:=by
 rw[all_eq_true]at h;exact#[all_eq_true.mpr λx hx=>h x (mem_of_mem_take hx),all_eq_true.mpr λx hx=>h x (List.mem_of_mem_drop hx)]
theorem KU{f:Nat->α}(h:∀i j,f i=f j->i=j)(n s:Nat):((List.range' s n).map f).Nodup:=pairwise_map.mpr (List.Pairwise.imp (λhne e=>hne (h _ _ e)) (List.nodup_range' ..))
theorem TK:∀o:Fin 18,cut Jc.cps.toList (some ((o.val:Nat):Int)) (some (((o.val+9:Nat)):Int))=List.range' (97+o.val) 9:=by decide +kernel
section
variable{k:Nat}
theorem names(c:Int):∃ws:List Str,(ws.length=9/\(∀x∈ws,Ah x=true)/\ws.Nodup/\∀x∈Hf,x∉ws)/\cN (k + 1) 51 [.p (.int c),.p (.int ((9:Nat):Int))]= .ok (.lst true (ws.map P.str)):=by
 rintro⟨o,ho,eo⟩:Al c (m:=18) #[];rintro⟨n,hn,en⟩:Al (c/27) (m:=8) #[]
 obtain ⟨_, e,ws,rfl,h⟩:=cw (k:=k) (args:=[.p (.int c),.p (.int ((9:Nat):Int))]) (R:=λz=>∃ws:List Str,z= .lst true (ws.map P.str)/\ws.length=9/\(∀x∈ws,Ah x=true)/\ws.Nodup/\∀x∈Hf,x∉ws) (gF 49 rfl) (by
  refine Am rfl (Am (d2 rfl #[rfl] (tI (D6 c (j:=18) #[]) eo)) (Am #[Df c #[]] (Am rfl (EI (λj U=>∃(l:List Nat) (y:Option C),U=[sI (c/27),sI ((9:Nat):Int),sS Jc,sI o,sS (sT l),y,none,none,none]/\l.all small=true/\l.length=j) #[tI (D6 (c/27) (j:=8) #[]) en] (Cd (by lia)) #[[],none,rfl,rfl,rfl] ?_ ?_))))
  .rintro j x hx _ ⟨l,y,rfl,hl,hj⟩
   rintro⟨hjn,rfl⟩:BH hx;rintro⟨i,hi,ei⟩:Al (c/27*((j:Int)+3)/7) (m:=26) #[];exact#[_,rfl,Am (d2 rfl (d2 rfl (d2 (d2 (d2 rfl #[AK (j:Int) 3] (HA (i:=c/27) (j:=(j:Int)+3) (.inr #[by lia,by lia]))) rfl (Df _ #[])) rfl (tI (D6 _ (j:=26) #[]) ei)) (Ed hi)) (EF l [97+i] (by simp;lia))) #[l++[97+i],_,rfl,Kk hl hi,by simp[hj]]]
  .rintro _ ⟨l,y,rfl,hl,hj⟩
   rw[Bj]at hj;rintro⟨a,ha,ea⟩:Al (c/27/8) (m:=l.length+1) (by lia);rintro⟨t1,t2⟩:Kn hl a;have l1:(l.take a).length=a:=by rw[length_take];lia
   have l2:(l.drop a).length=l.length-a:=length_drop ..;refine Am (d2 #[Df _ #[]] (d2 (d1 rfl (Uu l (by lia))) rfl (AK (l.length:Int) 1)) (tI (D6 _ (by lia)) ea)) (Am (dl rfl) (R4 (c:=.p (.int ((9:Nat):Int))) (λj U=>∃y,U=[sI (c/27),sI ((9:Nat):Int),sS Jc,sI o,sS (sT l),y,sI a,sL true (((List.range' o j).map (E2 (l.take a) (l.drop a))).map P.str),none]) rfl (Cd #[]) #[_,rfl] ?_ ?_))
   .rintro j x hx _ ⟨y,rfl⟩
    rintro⟨hj9,rfl⟩:BH hx;refine#[_,rfl,Jh (ps:=((List.range' o j).map (E2 (l.take a) (l.drop a))).map P.str) (p:=.str (E2 (l.take a) (l.drop a) (o+j))) (d2 (d2 #[Ub l a (by lia) (by lia)] (d2 rfl #[show Ad (.p (.int o)) (.p (.int j))=some (.p (.int ((o+j:Nat):Int)))from by rw[AK,Int.natCast_add]] (Ed (by lia))) (EF _ _ (by simp;lia))) #[Uc l a (by lia) (by lia)] ((EF _ _ (by simp;lia)).trans (by rw[append_assoc];rfl))) (by simp;lia) #[some (.p (.int j)),?_]];rw[List.range'_concat,map_append,map_append,Nat.one_mul];rfl
   .rintro _ ⟨y,rfl⟩
    rw[Bj]
    have ok:∀x∈(List.range' o 9).map (E2 (l.take a) (l.drop a)),Ah x=true:=λx hx=>by
     rintro⟨i,hi,rfl⟩:mem_map.mp hx;rw[mem_range'_1]at hi;exact Sl t1 t2 (by lia) (by lia)
    refine EI (xs:=Hf.map P.str) (λj U=>(∃z,U=[sI (c/27),sI ((9:Nat):Int),sS Jc,sI o,sS (sT l),y,sI a,sL true (((List.range' o 9).map (E2 (l.take a) (l.drop a))).map P.str),z])/\∀x∈Hf.take j,x∉(List.range' o 9).map (E2 (l.take a) (l.drop a))) (dl (fz rfl (fz rfl (fz rfl (fz rfl (fz rfl rfl)))))) rfl #[#[none,rfl],λx hx=>by cases hx] ?_ ?_
    .rintro j x hx _ ⟨⟨z,rfl⟩,hn⟩
     rw[List.getElem?_map]at hx;rintro⟨s,hs,rfl⟩:oM hx;refine#[_,rfl,?_];have ei:Nn (.p (.str s)) (.lst false (((List.range' o 9).map (E2 (l.take a) (l.drop a))).map P.str))=some (bC (((List.range' o 9).map (E2 (l.take a) (l.drop a))).contains s)):=by show((IL _ _).map bC)=_;rw[PU];rfl
     by_cases hm:s∈(List.range' o 9).map (E2 (l.take a) (l.drop a))
     .rw[show((List.range' o 9).map (E2 (l.take a) (l.drop a))).contains s=true from by simpa using hm]at ei
      have e3:Vq (.p (.str Jc)) (.p (.int o)) (.p (.int ((o + 9:Nat):Int)))=some (.p (.str (sT (List.range' (97 + o) 9)))):=by
       show(if((some (o:Int)).all (0<=·) && (some (((o+9:Nat)):Int)).all (0<=·))/\Jc.length<=big then some (C.p (.str ⟨(cut Jc.cps.toList (some (o:Int)) (some (((o+9:Nat)):Int))).toArray⟩))else none)=_;rw[iP #[by simp;lia,by decide],TK #[o,ho]]
      have e4:CP (.p (.str (sT (List.range' (97 + o) 9))))=some (nw ((List.range' (97 + o) 9).map sign)):=by
       show(((if(sT (List.range' (97+o) 9)).length<=big then some (signs (sT (List.range' (97+o) 9)))else none).bind λps=>if((sT (List.range' (97+o) 9)).cps.all λk=>decide (k < 128))=true then some (nw ps)else none) <|> _)=_;rw[iP (Kz (by simp)),Option.bind_some,iP]
       .rfl
       .rw[<-Array.all_toList,all_eq_true];intro x hx;have:=mem_range'_1.mp (by simpa using hx);exact dZ (by lia)
      refine wit (bb #[ei]) (Ax (d1 (d3 rfl rfl #[show Ad (.p (.int o)) (.p (.int ((9:Nat):Int)))=some (.p (.int ((o+9:Nat):Int)))from by rw[AK,Int.natCast_add]] e3) e4) #[(List.range' (97+o) 9).map λc=>sT [c],by rw[map_map];rfl,by simp,λx hx=>?_,KU (λi j e=>by simpa using congrArg Array.toList (congrArg Str.cps e)) 9 _,λx hx hy=>?_])
      .obtain⟨i,hi,rfl⟩:=mem_map.mp hx;rw[mem_range'_1]at hi;show(decide (1<=1) && decide (1<=8) && (small i && true))=true;simp[small];lia
      .obtain⟨i,hi,rfl⟩:=mem_map.mp hy;have:∀y∈Hf,4<=y.cps.toList.length:=by decide +kernel
       exact absurd (this _ hx) (by simp)
     .rw[show((List.range' o 9).map (E2 (l.take a) (l.drop a))).contains s=false from by simpa using hm]at ei;refine Ag (bb #[ei]) #[#[_,rfl],λx hx=>?_];rw[take_add_one,hs,Option.toList_some]at hx;rcases mZ hx with hx|hx
      .exact hn x hx
      .rw[mE hx];exact hm
    .rintro _ ⟨⟨z,rfl⟩,hn⟩
     exact MK #[_,rfl,by simp,ok,KU (λi j e=>Ws e) 9 o,hn])
 exact#[ws,h,e]
end
def Xr(fs:List Str):Prop:=fs.length=6/\(∀x∈fs,DU x=true)/\fs.Nodup
theorem IQ{j:Nat}{l:List Nat}(h:l.all small=true)(hl:l.length<=7)(hj:j < 26):DU (sT ((65 + j)::l))=true:=by
 show(great (65+j) && decide (l.length<=7) && l.all small)=true;rw[h,dZ hl,show great (65+j)=true from by simp[great];lia];rfl
theorem KA{a b:List Nat}(h:sT a=sT b):a=b:=by simpa using congrArg Array.toList (congrArg Str.cps h)
theorem UX:G7 (.p (.str Jc))=some (.p (.str TV)):=by
 show(if Jc="abcdefghijklmnopqrstuvwxyz" then some (C.p (.str "ABCDEFGHIJKLMNOPQRSTUVWXYZ"))else none)=_;rw[iP (show Jc="abcdefghijklmnopqrstuvwxyz" from rfl)];rfl
theorem Q8{o:Nat}{f:Nat->Str}(h:∀i j,f i=f j->i=j)(hf:∀i,o<=i->i < o + 6->DU (f i)=true):Xr ((List.range' o 6).map f):=⟨by simp,λx hx=>by
 rintro⟨i,hi,rfl⟩:mem_map.mp hx;rw[mem_range'_1]at hi
 exact hf i hi.1 hi.2,KU h 6 o⟩
section
variable{k:Nat}
theorem Xm(o j:Nat):Ad (.p (.int o)) (.p (.int j))=some (.p (.int ((o+j:Nat):Int))):=by rw[AK,Int.natCast_add]
theorem YE(o:Nat)(f:Nat->P):((List.range 6).map λj=>f (o+j))=(List.range' o 6).map f:=by rw[List.range'_eq_map_range,map_map];rfl
theorem Lm(c:Int):∃fs:List Str,(Xr fs/\("No":Str)∉fs/\("Yes":Str)∉fs)/\cN (k + 1) 52 [.p (.int c),.p (.int ((6:Nat):Int))]= .ok (.lst true (fs.map P.str)):=by
 rintro⟨o,ho,eo⟩:Al c (m:=21) #[];rintro⟨n,hn,en⟩:Al (c/27) (m:=7) #[]
 have tail:∀{fs:List Str} {b y8 y9 y6:Option C},Xr fs->WP (k<<<(dD.drop 7)>>>[sI c,sI ((6:Nat):Int),sS Jc,sS TV,sI o,b,y6,sL true (fs.map P.str),y8,y9]) (λ_=>False) (λz=>∃fs:List Str,z= .lst true (fs.map P.str)/\Xr fs/\("No":Str)∉fs/\("Yes":Str)∉fs):=λ{fs b y8 y9 y6} hf=>by
  have ei:∀s:Str,Nn (.p (.str s)) (.lst false (fs.map P.str))=some (bC (fs.contains s)):=λs=>by show((IL _ _).map bC)=_;rw[PU];rfl
  have back:∀{N:Env->Prop},WP (k<<<[(.ret (.comp (.nm 1) DP {1} [] (.A1 Ad {"X"} (.A1 Ae {3} (.A1 Ad {2} {1}))) [none,none,some 4,some 2]))]>>>[sI c,sI ((6:Nat):Int),sS Jc,sS TV,sI o,b,y6,sL true (fs.map P.str),y8,y9]) N (λz=>∃fs:List Str,z= .lst true (fs.map P.str)/\Xr fs/\("No":Str)∉fs/\("Yes":Str)∉fs):=by
   refine Ax (Qi (λi:Nat=>.int i) (List.range 6) (λ_=>true) (λj=>.str (sT [88,97+(o+j)])) rfl (JB #[]) (by simp) λj hj=>#[_,rfl,rfl,λ_=>#[_,d2 rfl (d2 rfl #[Xm o j] (Ed (by rw[mem_range]at hj;lia))) (EF [88] [97+(o+j)] (by simp)),rfl]]) #[(List.range' o 6).map λj=>sT [88,97+j],?_,Q8 (λi j e=>by have:=KA e;simp at this;exact this) λi _ h=>IQ (j:=23) (l:=[97+i]) (by simp[small];lia) (by simp) #[],λh=>?_,λh=>?_]
   .rw[filter_tt,map_map,YE o (λj=>.str (sT [88,97+j]))];rfl
   .obtain⟨i,_,e⟩:=mem_map.mp h;exact absurd (congrArg (λs:Str=>s.cps.toList.head?) e) (by show ¬(some 88=some 78);decide)
   .obtain⟨i,_,e⟩:=mem_map.mp h;exact absurd (congrArg (λs:Str=>s.cps.toList.head?) e) (by show ¬(some 88=some 89);decide)
  by_cases h1:("No":Str)∈fs
  .exact wit (Qu (bb #[(ei _).trans (by rw[show fs.contains ("No":Str)=true from by simpa using h1])])) back
  .by_cases h2:("Yes":Str)∈fs
   .exact wit (CV (bb #[(ei _).trans (by rw[show fs.contains ("No":Str)=false from by simpa using h1])]) (bb #[(ei _).trans (by rw[show fs.contains ("Yes":Str)=true from by simpa using h2])])) back
   .exact Ag (CV (bb #[(ei _).trans (by rw[show fs.contains ("No":Str)=false from by simpa using h1])]) (bb #[(ei _).trans (by rw[show fs.contains ("Yes":Str)=false from by simpa using h2])])) (MK #[fs,rfl,hf,h1,h2])
 obtain ⟨_,e,fs,rfl,h⟩:=cw (k:=k) (args:=[.p (.int c),.p (.int ((6:Nat):Int))]) (R:=λz=>∃fs:List Str,z= .lst true (fs.map P.str)/\Xr fs/\("No":Str)∉fs/\("Yes":Str)∉fs) (gF 50 rfl) (by
  refine Am rfl (Am (d1 rfl UX) (Am (d2 rfl #[rfl] (tI (D6 c (j:=21) #[]) eo)) (Am rfl (EI (λj U=>∃(l:List Nat) (y:Option C),U=[sI c,sI ((6:Nat):Int),sS Jc,sS TV,sI o,sS (sT l),y,none,none,none]/\l.all small=true/\l.length=j) (d2 #[Df c #[]] rfl (tI (D6 (c/27) (j:=7) #[]) en)) (Cd (by lia)) #[[],none,rfl,rfl,rfl] ?_ ?_))))
  .rintro j x hx _ ⟨l,y,rfl,hl,hj⟩
   rintro⟨hjn,rfl⟩:BH hx;rintro⟨i,hi,ei⟩:Al (c*((j:Int)+5)/11) (m:=26) #[];exact#[_,rfl,Am (d2 rfl (d2 rfl (d2 (d2 (d2 rfl #[AK (j:Int) 5] (HA (i:=c) (j:=(j:Int)+5) (.inr #[by lia,by lia]))) rfl (Df _ #[])) rfl (tI (D6 _ (j:=26) #[]) ei)) (Ed hi)) (EF l [97+i] (by simp;lia))) #[l++[97+i],_,rfl,Kk hl hi,by simp[hj]]]
  .rintro _ ⟨l,y,rfl,hl,hj⟩
   rw[Bj]at hj;refine Am (Qi (λi:Nat=>.int i) (List.range 6) (λ_=>true) (λj=>.str (sT ((65+(o+j))::l))) rfl (JB #[]) (by simp) λj hj'=>#[_,rfl,rfl,λ_=>#[_,d2 (d2 rfl #[Xm o j] (LY (by rw[mem_range]at hj';lia))) rfl (EF [65+(o+j)] l (by simp;lia)),rfl]]) ?_;rw[filter_tt,YE o (λj=>.str (sT ((65+j)::l))),show((List.range' o 6).map λj=>P.str (sT ((65+j)::l)))=((List.range' o 6).map λj=>sT ((65+j)::l)).map P.str from by rw[map_map];rfl];rintro⟨b2,hb2,eb2⟩:Al (c/200) (m:=2) #[];have hm:=tI (D6 (c/200) (j:=2) #[]) eb2
   by_cases hb:b2=1
   .subst hb;rintro⟨a,ha,ea⟩:Al (c/400) (m:=l.length+1) (by lia);rintro⟨t1,t2⟩:Kn hl a;have l1:(l.take a).length=a:=by rw[length_take];lia
    have l2:(l.drop a).length=l.length-a:=length_drop ..;refine wit (bb (d2 (d2 #[Df c #[]] rfl hm) rfl (K4 rfl))) (Am (d2 #[Df _ #[]] (d2 (d1 rfl (Uu l (by lia))) rfl (AK (l.length:Int) 1)) (tI (D6 _ (by lia)) ea)) (Am (dl rfl) (R4 (c:=.p (.int ((6:Nat):Int))) (λj U=>∃y9 y6,U=[sI c,sI ((6:Nat):Int),sS Jc,sS TV,sI o,sS (sT l),y6,sL true (((List.range' o j).map λj=>sT ((65+o)::(l.take a++(97+j)::l.drop a))).map P.str),sI a,y9]) rfl (Cd #[]) #[_,_,rfl] ?_ ?_)))
    .rintro j x hx _ ⟨y9,y6,rfl⟩
     rintro⟨hj6,rfl⟩:BH hx;refine#[_,rfl,Am (d2 #[LY (by lia)] #[Ub l a (by lia) (by lia)] (EF [65+o] (l.take a) (by simp;lia))) (Jh (ps:=((List.range' o j).map λj=>sT ((65+o)::(l.take a++(97+j)::l.drop a))).map P.str) (p:=.str (sT ((65+o)::(l.take a++(97+(o+j))::l.drop a)))) (d2 (d2 rfl (d2 rfl #[Xm o j] (Ed (by lia))) (EF _ _ (by simp;lia))) #[Uc l a (by lia) (by lia)] ((EF _ _ (by simp;lia)).trans (by simp))) (by simp;lia) #[some (.p (.str (sT ([65+o]++l.take a)))),sI j,?_])];rw[List.range'_concat,map_append,map_append,Nat.one_mul];rfl
    .rintro _ ⟨y9,y6,rfl⟩
     rw[Bj];refine Cn (Hl (λ_ h=>h.elim) (λz h=>h) (tail (Q8 (λi j e=>by have:=KA e;simp at this;exact this) λi h1 h2=>IQ (all_append▸?_) (by simp;lia) (by lia))));rw[t1,all_cons,t2,show small (97+i)=true from by simp[small];lia];rfl
   .have hb0:b2=0:=by lia
    subst hb0
    exact Ag (bb (d2 (d2 #[Df c #[]] rfl hm) rfl (DR #[]))) (Hl (λ_ h=>h.elim) (λz h=>h) (tail (Q8 (λi j e=>by have:=KA e;simp at this;exact this) λi h1 h2=>IQ hl (by lia) (by lia)))))
 exact#[fs,h,e]
end
def Lg(kk:Nat->Str)(m:Nat):Lf->Prop
 |.nm n=>n="whole"\/n="truth"\/n=kk 0
 |.op i=>i < m
def Kg(kk:Nat->Str)(m:Nat)(x:Kd):Prop:=(∃l,Lg kk m l/\x=l.k)\/(∃l,Lg kk m l/\x= .mk (kk 1) [l])\/∃l l',Lg kk m l/\Lg kk m l'/\x= .mk (kk 2) [l,l']
def QQ(kk:Nat->Str)(m:Nat):List Lf:=[.nm "whole",.nm "truth",.nm (kk 0)]++(List.range m).map .op++(List.range m).map .op
variable{kk:Nat->Str}
theorem Zh{m:Nat}{l:Lf}(h:l∈QQ kk m):Lg kk m l:=by
 have op:∀{l},l∈(List.range m).map Lf.op->Lg kk m l:=λh=>by rintro⟨i,hi,rfl⟩:mem_map.mp h;exact mem_range.mp hi
 rcases mZ h with h|h
 .rcases mZ h with h|h
  .simp only[mem_cons,not_mem_nil,or_false]at h;rcases h with rfl|rfl|rfl
   .exact .inl rfl
   .exact .inr (.inl rfl)
   .exact .inr (.inr rfl)
  .exact op h
 .exact op h
theorem IG(kk:Nat->Str)(m:Nat):(QQ kk m).length=3+2*m:=by simp[QQ];lia
theorem JQ{m:Nat}(h:m<=10):En (.p (.int m))=some (.lst true (((List.range m).map Lf.op).map Lf.p)):=by
 show((DP (.p (.int m))).bind λps=>if ps.length<=big then some (nw ps)else none)=_;rw[JB (by lia),Option.bind_some,iP (show _<=big from(by simp;lia:_<=100000)),map_map];rfl
theorem Eo{m:Nat}(hk:∀i,i < 3->Ah (kk i)=true){l:Lf}(h:Lg kk m l):l.ok:=by
 cases l with
 |nm n=>
   rcases h with rfl|rfl|rfl
   .show Ah _=true;decide +kernel
   .show Ah _=true;decide +kernel
   .exact hk 0 #[]
 |op i=>trivial
theorem PC{m:Nat}(hk:∀i,i < 3->Ah (kk i)=true){x:Kd}(h:Kg kk m x):x.lt m:=by
 have lo:∀{l:Lf},Lg kk m l->∀i,Kd.op i=l.k->i < m:=λ{l} h i e=>by cases l with|nm n=>cases e|op j=>cases e;exact h
 rcases h with⟨l,h,rfl⟩|⟨l,h,rfl⟩|⟨l,l',h,h',rfl⟩
 .refine#[Ut (Eo hk h),λi hi=>?_];rw[Sx]at hi;exact lo h i (mE hi)
 .refine#[#[hk 1 #[],by simp,λa ha=>by rw[mE ha];exact Eo hk h],λi hi=>?_];simp only[Kd.w,Kd.parts,map_cons,map_nil,mem_cons,not_mem_nil,or_false]at hi;rcases hi with hi|hi
  .cases hi
  .exact lo h i hi
 .refine#[#[hk 2 #[],by simp,λa ha=>?_],λi hi=>?_]
  .simp only[mem_cons,not_mem_nil,or_false]at ha;rcases ha with rfl|rfl
   .exact Eo hk h
   .exact Eo hk h'
  .simp only[Kd.w,Kd.parts,map_cons,map_nil,mem_cons,not_mem_nil,or_false]at hi;rcases hi with hi|hi|hi
   .cases hi
   .exact lo h i hi
   .exact lo h' i hi
theorem Ux{m:Nat}(H:∀i,i < 3->∃fs,.kind (kk i) i fs∈rs){x:Kd}(h:Kg kk m x):ao rs x:=by
 have w:∀i,i < 3->∃fs,.kind (kk i) i fs∈own++rs:=λi hi=>(H i hi).imp λfs h=>mR h
 have lo:∀{l:Lf},Lg kk m l->∀n as,Kd.mk n as=l.k->∃fs,.kind n as.length fs∈own++rs:=λ{l} h n as e=>by
  cases l with
  |op j=>cases e
  |nm q=>
    cases e;rcases h with rfl|rfl|rfl
    .exact#[[],by simp[own]]
    .exact#[_,mL (mem_cons_of_mem _ mS)]
    .exact w 0 #[]
 intro n as hi;rcases h with⟨l,h,rfl⟩|⟨l,h,rfl⟩|⟨l,l',h,h',rfl⟩
 .rw[Sx]at hi;exact lo h n as (mE hi)
 .simp only[Kd.w,Kd.parts,map_cons,map_nil,mem_cons,not_mem_nil,or_false]at hi;rcases hi with hi|hi
  .cases hi;exact w 1 #[]
  .exact lo h n as hi
 .simp only[Kd.w,Kd.parts,map_cons,map_nil,mem_cons,not_mem_nil,or_false]at hi;rcases hi with hi|hi|hi
  .cases hi;exact w 2 #[]
  .exact lo h n as hi
  .exact lo h' n as hi
section
variable {k:Nat}{kk:Nat->Str}{m:Nat}(hm:m<=2){o:Bool}
include hm
theorem Mh{R:C->Prop}{N:Env->Prop}(c d:Int)(h:∀w:Nat,w < 3 + 2 * m + 2->WP (k<<<(cC.drop 2)>>>[sI c,some (kL o kk),sI m,sI d,sL true ((QQ kk m).map Lf.p),sI w,none]) N R):WP (k<<<cC>>>[sI c,some (kL o kk),sI m,sI d,none,none,none]) N R:=by
 rintro⟨w,hw,ew⟩:Al c (m:=3+2*m+2) (by lia);have e1:Ad (.lst true [.tup [.str "whole"],.tup [.str "truth"],.tup [.str (kk 0)]]) (.lst true (((List.range m).map Lf.op).map Lf.p))=some (.lst true (([Lf.nm "whole",.nm "truth",.nm (kk 0)]++(List.range m).map Lf.op).map Lf.p)):=(add_l (by simp;lia)).trans (by rw[map_append];rfl);have e2:Ad (.lst true (([Lf.nm "whole",.nm "truth",.nm (kk 0)]++(List.range m).map Lf.op).map Lf.p)) (.lst true (((List.range m).map Lf.op).map Lf.p))=some (.lst true ((QQ kk m).map Lf.p)):=(add_l (by simp;lia)).trans (by rw[<-map_append];rfl);refine Am (d2 (d2 (dl (fz (dt (fz rfl rfl)) (fz (dt (fz rfl rfl)) (fz (dt (fz #[#[0]] rfl)) rfl)))) (d1 rfl (JQ (by lia))) e1) (d1 rfl (JQ (by lia))) e2) (Am (d2 rfl (d2 (d1 rfl (B0 _)) rfl (AK _ 2)) (tI (D6 c (by simp;lia)) (?_:_=(w:Int)))) (h w hw));rw[lM,IG,<-ew]
 congr 1
theorem JS{R:C->Prop}{N:Env->Prop}{w:Nat}(hR:∀l,Lg kk m l->R (.p l.p)):WP (k<<<[(.ret (.A1 Ae {4} (.A1 (Aw Dt) {5} (.Ak AD {4}))))]>>>[sI c,some (kL o kk),sI m,sI d,sL true ((QQ kk m).map Lf.p),sI w,none]) N R:=by
 have hl:=IG kk m;rintro⟨i,hi,ei⟩:Al (w:Int) (m:=(QQ kk m).length) (by lia);refine Ax (d2 rfl (d2 rfl (d1 rfl (B0 _)) (tI (D6 _ (by simp;lia)) (by rw[lM];exact ei))) (AA rfl (by rw[List.getElem?_map,List.getElem?_eq_getElem hi];rfl))) (hR _ (Zh (getElem_mem hi)))
theorem Uw(c d:Int)(hd:d=0):∃l,Lg kk m l/\cN (k + 1) 53 [.p (.int c),kL o kk,.p (.int m),.p (.int d)]= .ok (.p l.p):=by
 rintro⟨_,e,l,h,rfl⟩:cw (k:=k) (args:=[.p (.int c),kL o kk,.p (.int m),.p (.int d)]) (R:=λz=>∃l,Lg kk m l/\z= .p l.p) (gF 51 rfl) (Mh hm c d λw hw=>by
  refine wit ?_ (JS hm λl hl=>#[l,hl,rfl])
  by_cases h:w < (QQ kk m).length
  .exact Qu (bb (d2 rfl (d1 rfl (B0 _)) (JP (by simp;exact_mod_cast h))))
  .exact CV (bb (d2 rfl (d1 rfl (B0 _)) (FG (by simp;lia)))) (bb #[K4 hd]))
 exact#[l,h,e]
theorem PB(c d:Int)(hd:d=1):∃x,Kg kk m x/\cN (k + 2) 53 [.p (.int c),kL o kk,.p (.int m),.p (.int d)]= .ok (.p x.p):=by
 rintro⟨_,e,l,h,rfl⟩:cw (k:=k + 1) (args:=[.p (.int c),kL o kk,.p (.int m),.p (.int d)]) (R:=λz=>∃x,Kg kk m x/\z= .p x.p) (gF 51 rfl) (Mh hm c d λw hw=>by
  have hll:=IG kk m;have nd:d≠0:=by lia
  by_cases h:w < (QQ kk m).length
  .exact wit (Qu (bb (d2 rfl (d1 rfl (B0 _)) (JP (by simp;exact_mod_cast h))))) (JS hm λl hl=>#[l.k,.inl #[l,hl,rfl],by rw[Zi]])
  .refine Ag (CV (bb (d2 rfl (d1 rfl (B0 _)) (FG (by simp;lia)))) (bb #[DR nd])) ?_;rintro⟨l,hl,el⟩:Uw (k:=k) (kk:=kk) (o:=false) hm (c/13) (d-1) (by lia)
   by_cases h2:w=(QQ kk m).length
   .exact wit (bb (d2 rfl (d1 rfl (B0 _)) (K4 (by simp;exact_mod_cast h2)))) (Ax (dt (fz #[#[1]] (fz (dc (ar #[Df c #[]] (ar rfl (ar rfl (ar #[rfl] rfl)))) el) rfl))) #[.mk (kk 1) [l],.inr (.inl #[l,hl,rfl]),rfl])
   .obtain⟨l',hl',el'⟩:=Uw (k:=k) (kk:=kk) (o:=false) hm (c/177) 0 rfl
    exact Ag (bb (d2 rfl (d1 rfl (B0 _)) (DR (by simp;lia)))) (Am (dc (ar #[Df c #[]] (ar rfl (ar rfl (ar #[rfl] rfl)))) el) (Ax (dt (fz #[#[2]] (fz rfl (fz (dc (ar #[Df c #[]] (ar rfl (ar rfl (ar rfl rfl)))) el') rfl)))) #[.mk (kk 2) [l,l'],.inr (.inr #[l,l',hl,hl',rfl]),rfl])))
 exact#[l,h,e]
end
section
variable{k:Nat}
def Fh:Str:="plus"
theorem RS:Ah Fh=true:=by decide +kernel
theorem expr{o o':Bool}(c:Int){ps fs ds:List Str}(hp:∀x∈ps,Ah x=true)(hpl:ps.length<=3)(hf:∀x∈fs,DU x=true)(h1:1<=fs.length)(hfl:fs.length<=100)(hd:∀x∈ds,Ah x=true)(hdl:ds.length<=100):∃e:Ex,e.ok/\cN (k + 1) 54 [.p (.int c),.p (.tup (ps.map P.str)),.lst o (fs.map P.str),.lst o' (ds.map P.str)]= .ok (.p e.p):=by
 obtain⟨E9,h9⟩:∃E:Int,E=10 ^ 9:=#[_,rfl];obtain⟨E8,h8⟩:∃E:Int,E=10 ^ 8:=#[_,rfl];have p9:Aw JF (.p (.int 10)) (.p (.int 9))=some (.p (.int E9)):=by rw[h9];rfl
 have p8:Aw JF (.p (.int 10)) (.p (.int 8))=some (.p (.int E8)):=by rw[h8];rfl
 rintro⟨i,hi,ei⟩:Al (c/5) (m:=fs.length) (by lia);rintro⟨j,hj,ej⟩:Al (c/5) (m:=ds.length+1) (by lia)
 have hdp:∀x∈ds++[Fh],Ah x=true:=λx hx=>by
  rcases mZ hx with hx|hx
  .exact hd x hx
  .rw[mE hx];exact RS
 have ef:Ae (.lst false (fs.map P.str)) (.p (.int i))=some (.p (.str fs[i])):=AA rfl (by rw[List.getElem?_map,List.getElem?_eq_getElem hi];rfl);have hj':j < (ds++[Fh]).length:=by simp;exact hj
 have ea:Ad (.lst false (ds.map P.str)) (.lst true [.str "plus"])=some (.lst true ((ds++[Fh]).map P.str)):=(add_l (by simp<;>lia)).trans (by rw[map_append];rfl);have ed:Ae (.lst true ((ds++[Fh]).map P.str)) (.p (.int j))=some (.p (.str (ds++[Fh])[j])):=AA rfl (by rw[List.getElem?_map,List.getElem?_eq_getElem hj'];rfl)
 rintro⟨_,e,x,hx,rfl⟩:cw (k:=k) (args:=[.p (.int c),.p (.tup (ps.map P.str)),.lst o (fs.map P.str),.lst o' (ds.map P.str)]) (R:=λz=>∃x:Ex,x.ok/\z= .p x.p) (gF 52 rfl) (by
  refine Am (dl (fz (dt (fz rfl (fz (d2 (d2 #[Df c #[]] #[p9] (D6 (c/5) (j:=E9) (by rw[h9];decide))) (d2 rfl #[p8] (HA (i:=5) (j:=E8) (.inl #[by decide,by decide]))) rfl) rfl))) rfl)) (Jh (ps:=[Ex.num (c/5%E9-5*E8)].map Ex.p) (p:=(Ex.Ln fs[i]).p) (dt (fz rfl (fz (d2 rfl (d2 #[Df c #[]] (d1 rfl (B0 _)) (tI (D6 _ (by simp<;>lia)) (by rw[lM];exact ei))) ef) (fz (dt rfl) rfl)))) (by simp) (Am (d2 (d2 rfl (dl (fz rfl rfl)) ea) (d2 #[Df c #[]] (d2 (d1 rfl (B0 _)) rfl (AK _ 1)) (tI (D6 _ (by simp<;>lia)) (by rw[lM];exact ej))) ed) (Jh (ps:=[Ex.num (c/5%E9-5*E8),.Ln fs[i]].map Ex.p) (p:=(Ex.call (ds++[Fh])[j]).p) (dt (fz rfl (fz rfl (fz (dt (fz (dt (fz rfl (fz rfl rfl))) rfl)) rfl)))) (by simp) (R4 (c:=.p (.tup (ps.map P.str))) (λj U=>∃(es:List Ex) (y:Option C) (z:Option C),U=[sI c,sP (.tup (ps.map P.str)),sL o (fs.map P.str),sL o' (ds.map P.str),sL true (es.map Ex.p),y,z]/\es.length=3+j/\∀x∈es,x.ok) rfl rfl #[[.num (c/5%E9-5*E8),.Ln fs[i],.call (ds++[Fh])[j]],_,_,rfl,rfl,λx hx=>?_] ?_ ?_))))
  .simp only[mem_cons,not_mem_nil,or_false]at hx;rcases hx with rfl|rfl|rfl
   .have a0:=Int.emod_nonneg (c/5) (b:=E9) (by rw[h9];decide);have a1:=Int.emod_lt_of_pos (c/5) (b:=E9) (by rw[h9];decide);have b9:E9=1000000000:=by rw[h9];decide
    have b8:E8=100000000:=by rw[h8];decide
    have:(10:Int) ^ 60=1000000000000000000000000000000000000000000000000000000000000:=by decide
    exact#[by lia,by lia]
   .exact hf _ (getElem_mem hi)
   .exact hdp _ (getElem_mem hj')
  .rintro j x hx _ ⟨es,y,z,rfl,he,ho⟩
   rw[List.getElem?_map]at hx;rintro⟨s,hs,rfl⟩:oM hx;have hj3:=(List.getElem?_eq_some_iff.mp hs).1;refine#[_,rfl,Jh (ps:=es.map Ex.p) (p:=(Ex.name s).p) (dt (fz rfl (fz rfl rfl))) (by simp<;>lia) #[es++[.name s],y,sS s,by rw[map_append (l₁:=es)];rfl,by simp<;>lia,λx hx=>?_]];rcases mZ hx with hx|hx
   .exact ho x hx
   .rw[mE hx];exact hp s (mem_of_getElem? hs)
  .rintro _ ⟨es,y,z,rfl,he,ho⟩
   rintro⟨m,hm,em⟩:Al c (m:=es.length) (by lia)
   exact Ax (d2 rfl (d2 rfl (d1 rfl (B0 _)) (tI (D6 c (by simp<;>lia)) (by rw[lM];exact em))) (AA rfl (by rw[List.getElem?_map,List.getElem?_eq_getElem hm];rfl))) #[_,ho _ (getElem_mem hm),rfl])
 exact#[x,hx,e]
end
def Fg(kk:Nat->Str)(fs:List Str)(m:Nat)(ff:List (Str×List Kd)):Prop:=ff.length<=2/\(∀(j:Nat) (f:Str×List Kd),ff[j]? =some f->fs[2*m+j]? =some f.1)/\∀f∈ff,f.2.length<=3/\∀x∈f.2,Kg kk m x
section
variable{k:Nat}{kk:Nat->Str}{o o':Bool}
theorem Fq{m:Nat}(h:m < 3){b:Bool}:Ae (kL b kk) (.p (.int m))=some (.p (.str (kk m))):=AA (ps:=[.str (kk 0),.str (kk 1),.str (kk 2)]) rfl (by rcases(by lia:m=0\/m=1\/m=2)with rfl|rfl|rfl<;>rfl)
theorem Ng(c:Int){fs:List Str}(hf:fs.length=6):∃ff:Nat->List (Str×List Kd),(∀m,m < 3->1<=(ff m).length/\Fg kk fs m (ff m))/\cN (k + 3) 55 [.p (.int c),kL o kk,.lst o' (fs.map P.str)]= .ok (.lst true (((List.range 3).map λm=>Row.kind (kk m) m (ff m)).map Row.p)):=by
 obtain ⟨_, e,ff,h,rfl⟩:=cw (k:=k + 2) (args:=[.p (.int c),kL o kk,.lst o' (fs.map P.str)]) (R:=λz=>∃ff:Nat->List (Str×List Kd),(∀m,m < 3->1<=(ff m).length/\Fg kk fs m (ff m))/\z= .lst true (((List.range 3).map λm=>Row.kind (kk m) m (ff m)).map Row.p)) (gF 53 rfl) (by
  refine Am (dl rfl) (EI (λn U=>∃(ff:Nat->List (Str×List Kd)) (y4 y5 y6 y7 y8:Option C),U=[sI c,some (kL o kk),sL o' (fs.map P.str),sL true (((List.range n).map λm=>Row.kind (kk m) m (ff m)).map Row.p),y4,y5,y6,y7,y8]/\∀m,m < n->1<=(ff m).length/\Fg kk fs m (ff m)) rfl (Cd (n:=3) #[]) #[λ_=>[],_,_,_,_,_,rfl,λm h=>absurd h (Nat.not_lt_zero _)] ?_ ?_)
  .rintro n x hx _ ⟨ff,y4,y5,y6,y7,y8,rfl,hF⟩
   rintro⟨hn,rfl⟩:BH hx;rintro⟨a,ha,ea⟩:Al (c/((n:Int)+3)) (m:=2) #[];have e1:Ad (.p (.int 1)) (.p (.int (c/((n:Int)+3)%2)))=some (.p (.int ((1+a:Nat):Int))):=by rw[AK,show c/((n:Int)+3)%2=(a:Int)from ea];rfl
   refine#[_,rfl,Am (dl rfl) (EI (λj U=>∃(gs:List (Str×List Kd)) (y6 y7 y8:Option C),U=[sI c,some (kL o kk),sL o' (fs.map P.str),sL true (((List.range n).map λm=>Row.kind (kk m) m (ff m)).map Row.p),sI n,sL true (gs.map fP),y6,y7,y8]/\gs.length=j/\(∀(j:Nat) (f:Str×List Kd),gs[j]? =some f->fs[2*n+j]? =some f.1)/\∀f∈gs,f.2.length<=3/\∀x∈f.2,Kg kk n x) (d2 rfl (d2 (d2 rfl #[AK (n:Int) 3] (Df c #[by lia,by lia])) rfl (D6 _ #[])) e1) (Cd (by lia)) #[[],_,_,_,rfl,rfl,(λj f h=>by cases h),λf h=>by cases h] ?_ ?_)]
   .rintro j x hx _ ⟨gs,y6,y7,y8,rfl,hg,hg2,hg3⟩
    rintro⟨hj,rfl⟩:BH hx;rintro⟨b,hb,eb⟩:Al (c/((n:Int)+j+2)) (m:=4) #[];refine#[_,rfl,Am (dl rfl) (EI (λi U=>∃(xs:List Kd) (y8:Option C),U=[sI c,some (kL o kk),sL o' (fs.map P.str),sL true (((List.range n).map λm=>Row.kind (kk m) m (ff m)).map Row.p),sI n,sL true (gs.map fP),sI j,sL true (xs.map Kd.p),y8]/\xs.length=i/\∀x∈xs,Kg kk n x) (d2 (d2 rfl (d2 #[AK (n:Int) j] rfl (AK _ 2)) (Df c #[by lia,by lia])) rfl (tI (D6 _ (j:=4) #[]) eb)) (Cd (by lia)) #[[],_,rfl,rfl,λx h=>by cases h] ?_ ?_)]
    .rintro i x hx _ ⟨xs,y8,rfl,hxl,hxs⟩
     rintro⟨hi,rfl⟩:BH hx;rintro⟨x,hx,ex⟩:PB (k:=k) (kk:=kk) (m:=n) (o:=false) (by lia) (c/(5*(n:Int)+7*j+11*i+2)) 1 rfl;refine#[_,rfl,Jh (ps:=xs.map Kd.p) (p:=x.p) (dc (ar (d2 rfl (d2 (d2 (d2 #[HA (i:=5) (j:=(n:Int)) (.inl #[by decide,by decide])] #[HA (i:=7) (j:=(j:Int)) (.inl #[by decide,by decide])] (AK _ _)) #[HA (i:=11) (j:=(i:Int)) (.inl #[by decide,by decide])] (AK _ _)) rfl (AK _ 2)) (Df c #[by lia,by lia])) (ar rfl (ar rfl (ar rfl rfl)))) ex) (by simp<;>lia) #[xs++[x],sI i,by rw[map_append (l₁:=xs)];rfl,by simp[hxl],λz hz=>?_]];rcases mZ hz with hz|hz
     .exact hxs z hz
     .rw[mE hz];exact hx
    .rintro _ ⟨xs,y8,rfl,hxl,hxs⟩
     rw[Bj]at hxl;have hfj:2*n+j < fs.length:=by lia
     have ef:Ae (.lst false (fs.map P.str)) (.p (.int ((2*n+j:Nat):Int)))=some (.p (.str fs[2*n+j])):=AA rfl (by rw[List.getElem?_map,List.getElem?_eq_getElem hfj];rfl);refine Jh (ps:=gs.map fP) (p:=fP (fs[2*n+j],xs)) (dt (fz (d2 rfl (d2 #[HA (i:=2) (j:=(n:Int)) (.inl #[by decide,by decide])] rfl (show Ad (.p (.int (2*(n:Int)))) (.p (.int j))=some (.p (.int ((2*n+j:Nat):Int)))from by rw[AK,Int.natCast_add,Int.natCast_mul];rfl)) ef) (fz (d1 rfl rfl) rfl))) (by simp<;>lia) #[gs++[(fs[2*n+j],xs)],sI j,sL true (xs.map Kd.p),y8,by rw[map_append (l₁:=gs)];rfl,by simp[hg],λi f h=>?_,λf h=>?_]
     .rw[List.getElem?_append]at h;split at h
      .exact hg2 i f h
      .have:i=j:=by have:=(List.getElem?_eq_some_iff.mp h).1;simp at this;lia
       subst this;rw[hg,Nat.sub_self]at h;cases h;exact List.getElem?_eq_getElem hfj
     .rcases mZ h with h|h
      .exact hg3 f h
      .rw[mE h];exact#[by simp only;lia,hxs]
   .rintro _ ⟨gs,y6,y7,y8,rfl,hg,hg2,hg3⟩
    rw[Bj]at hg;refine Jh (ps:=((List.range n).map λm=>Row.kind (kk m) m (ff m)).map Row.p) (p:=(Row.kind (kk n) n gs).p) (dt (fz rfl (fz #[Fq hn] (fz rfl (fz (d1 rfl rfl) rfl))))) (by simp<;>lia) #[λm=>if m=n then gs else ff m,sI n,sL true (gs.map fP),y6,y7,y8,?_,λm hm=>?_]
    .rw[range_succ,map_append,map_append,show((List.range n).map λm=>Row.kind (kk m) m (if m=n then gs else ff m))=(List.range n).map λm=>Row.kind (kk m) m (ff m)from map_congr_left λm hm=>by rw[iN (Nat.ne_of_lt (mem_range.mp hm))]];show _=[_,_,_,some (C.lst true (_++[(Row.kind (kk n) n (if n=n then gs else ff n)).p])),_,_,_,_,_];rw[iP rfl];rfl
    .by_cases e:m=n
     .subst e;show 1<=(if m=m then gs else ff m).length/\Fg kk fs m (if m=m then gs else ff m);rw[iP rfl];exact#[by lia,by lia,hg2,hg3]
     .show 1<=(if m=n then gs else ff m).length/\Fg kk fs m (if m=n then gs else ff m);rw[iN e];exact hF m (by lia)
  .rintro _ ⟨ff,y4,y5,y6,y7,y8,rfl,hF⟩
   rw[Bj]at hF ⊢
   exact MK #[ff,hF,rfl])
 exact#[ff,h,e]
end
structure Cg(cc:Nat->Str)(el:Nat->List Str):Prop where
 e0:el 0=[]
 e1:∀x∈el 1,x=cc 0
 e2:∀x∈el 2,x=cc 0\/x=cc 1
 l1:(el 1).length<=1
 l2:(el 2).length<=2
def Ck(cc:Nat->Str)(el:Nat->List Str):List Row:=[.cls (cc 0) (el 0),.cls (cc 1) (el 1),.cls (cc 2) (el 2)]
section
variable{k:Nat}{cc:Nat->Str}{o o':Bool}
theorem LC(c:Int):∃el,Cg cc el/\cN (k + 1) 56 [.p (.int c),kL o cc]= .ok (.lst true ((Ck cc el).map Row.p)):=by
 rintro⟨i,hi,ei⟩:Al c (m:=2) #[];rintro⟨j,hj,ej⟩:Al (c/2) (m:=5) #[]
 have s1:∃l:List Str,(l=[]\/l=[cc 0])/\Ae (.lst true [.tup [],.tup [.str (cc 0)]]) (.p (.int i))=some (.p (.tup (l.map P.str))):=by
  rcases(by lia:i=0\/i=1)with rfl|rfl
  .exact#[[],.inl rfl,AA rfl rfl]
  .exact#[[cc 0],.inr rfl,AA rfl rfl]
 have s2:∃l:List Str,((∀x∈l,x=cc 0\/x=cc 1)/\l.length<=2)/\Ae (.lst true [.tup [],.tup [.str (cc 0)],.tup [.str (cc 1)],.tup [.str (cc 0),.str (cc 1)],.tup [.str (cc 1),.str (cc 0)]]) (.p (.int j))=some (.p (.tup (l.map P.str))):=by
  rcases(by lia:j=0\/j=1\/j=2\/j=3\/j=4)with rfl|rfl|rfl|rfl|rfl
  .exact#[[],#[by simp,by simp],AA rfl rfl]
  .exact#[[cc 0],#[by simp,by simp],AA rfl rfl]
  .exact#[[cc 1],#[by simp,by simp],AA rfl rfl]
  .exact#[[cc 0,cc 1],#[by simp,by simp],AA rfl rfl]
  .exact#[[cc 1,cc 0],#[by simp,by simp],AA rfl rfl]
 rintro⟨l1,h1,s1⟩:s1;rintro⟨l2,h2,s2⟩:s2;refine#[λm=>if m=0 then[]else if m=1 then l1 else l2,#[rfl,λx hx=>?_,h2.1,?_,h2.2],ce (gF 54 rfl) (av rfl rfl (Am (d2 (dl (fz (dt rfl) (fz (dt (fz rfl rfl)) rfl))) #[tI (D6 c (j:=2) #[]) ei] s1) (Am (d2 (dl (fz (dt rfl) (fz (dt (fz rfl rfl)) (fz (dt (fz rfl rfl)) (fz (dt (fz rfl (fz rfl rfl))) (fz (dt (fz rfl (fz rfl rfl))) rfl)))))) (d2 #[Df c #[]] rfl (tI (D6 (c/2) (j:=5) #[]) ej)) s2) (Ax (dl (fz (dt (fz rfl (fz rfl (fz (dt rfl) rfl)))) (fz (dt (fz rfl (fz rfl (fz rfl rfl)))) (fz (dt (fz rfl (fz rfl (fz rfl rfl)))) rfl)))) rfl))))]
 .rcases h1 with rfl|rfl
  .cases hx
  .exact mE hx
 .rcases h1 with rfl|rfl<;>exact Nat.le_of_ble_eq_true rfl
def md(c:Int)(i:Nat):Nat:=(c/(3*(i:Int)+1)%5).toNat
def nf(w:Nat)(cls:Str)(el:List Str)(d:Str):Option Str:=if w=2\/(w=3/\el=[])then none else if w=1 then some d else some cls
def Gv(c:Int)(n:Nat)(cls:Str)(el:List Str)(d:Str):List (Option Str):=(List.range n).map λi=>nf (md c i) cls el d
theorem Za(c:Int){n:Nat}(hn:n<=3)(cls:Str)(el:List Str):cN (k + 1) 58 [.p (.int c),.p (.int n),.p (.str cls),.p (.tup (el.map P.str)),kL o cc]= .ok (.p (.tup ((Gv c n cls el (cc 2)).map oP))):=by
 have eq0:Bd (.p (.tup (el.map P.str))) (.p (.tup []))=some (bC (decide (el=[]))):=by
  have:X7 (.p (.tup (el.map P.str))) (.p (.tup []))=some (decide (P.tup (el.map P.str)= .tup [])):=ae (by show(decide ((P.tup []).tag < 4) || BA (el.map P.str) [])=true;cases el<;>rfl) (Nat.le_trans (BX el).2 #[]);unfold Bd;rw[this];cases el<;>rfl
 refine ce (gF 56 rfl) (Am (dl rfl) (R4 (c:=.p (.int n)) (λj U=>∃y6 y7 y8,U=[sI c,sI n,sS cls,sP (.tup (el.map P.str)),some (kL o cc),sL true ((Gv c j cls el (cc 2)).map oP),y6,y7,y8]) rfl (Cd (by lia)) #[_,_,_,rfl] ?_ ?_))
 .rintro j x hx _ ⟨y6,y7,y8,rfl⟩
  rintro⟨hj,rfl⟩:BH hx;rintro⟨w,hw,ew⟩:Al (c/(3*(j:Int)+1)) (m:=5) #[];have hmd:md c j=w:=by unfold md;rw[show c/(3*(j:Int)+1)%5=(w:Int)from ew];rfl
  have e7:Aw Dt (.p (.int (c/(3*(j:Int)+1)))) (.p (.int 5))=some (.p (.int w)):=tI (D6 _ (j:=5) #[]) ew;have app:∀q:Option Str,Gv c (j+1) cls el (cc 2)=Gv c j cls el (cc 2)++[q]->(Gv c (j+1) cls el (cc 2)).map oP=(Gv c j cls el (cc 2)).map oP++[oP q]:=λq h=>by rw[h,map_append];rfl
  have stp:Gv c (j+1) cls el (cc 2)=Gv c j cls el (cc 2)++[nf w cls el (cc 2)]:=by unfold Gv;rw[range_succ,map_append,map_singleton,hmd]
  have lj:(Gv c j cls el (cc 2)).length=j:=by simp[Gv]
  have fin:∀(q:Option Str) y7,nf w cls el (cc 2)=q->WP (k<<<[(.Ce 5 true (EJ LF) [{8}])]>>>[sI c,sI n,sS cls,sP (.tup (el.map P.str)),some (kL o cc),sL true ((Gv c j cls el (cc 2)).map oP),sI j,y7,sP (oP q)]) (λU=>∃y6 y7 y8,U=[sI c,sI n,sS cls,sP (.tup (el.map P.str)),some (kL o cc),sL true ((Gv c (j+1) cls el (cc 2)).map oP),y6,y7,y8]) (λd=>C.p (.tup ((Gv c n cls el (cc 2)).map oP))=d):=λq y7 hq=>Jh (ps:=(Gv c j cls el (cc 2)).map oP) (p:=oP q) rfl (by simp[lj];lia) #[some (.p (.int j)),y7,sP (oP q),by rw[app q (hq▸stp)];rfl]
  refine#[_,rfl,Am (d2 (d2 rfl (d2 #[HA (i:=3) (j:=(j:Int)) (.inl #[by decide,by decide])] rfl (AK _ 1)) (Df c #[by lia,by lia])) rfl e7) (Am rfl ?_)]
  by_cases h1:w=1
  .refine wit (bb #[K4 (by rw[h1];rfl)]) (Am #[Fq (m:=2) #[]] (Cn (Ag (CV (bb #[DR (by rw[h1];decide)]) (UO (bb #[DR (by rw[h1];decide)]))) (fin (some (cc 2)) _ (by unfold nf;rw[iN (by rw[h1];simp),iP h1])))))
  .refine Ag (bb #[DR (by lia)]) ?_
   by_cases h2:w=2
   .exact wit (Qu (bb #[K4 (by rw[h2];rfl)])) (Am rfl (Cn (fin none _ (iP (.inl h2)))))
   .by_cases h3:w=3
    .by_cases h4:el=[]
     .rw[dZ h4]at eq0;exact wit (CV (bb #[DR (by lia)]) (Qz (bb #[K4 (by rw[h3];rfl)]) (bb (d2 rfl (dt rfl) eq0)))) (Am rfl (Cn (fin none _ (iP (.inr #[h3,h4])))))
     .rw[dF h4]at eq0;exact Ag (CV (bb #[DR (by lia)]) (Qz (bb #[K4 (by rw[h3];rfl)]) (bb (d2 rfl (dt rfl) eq0)))) (fin (some cls) _ (by unfold nf;rw[iN (λz=>z.elim h2 λz=>h4 z.2),iN h1]))
    .exact Ag (CV (bb #[DR (by lia)]) (UO (bb #[DR (by lia)]))) (fin (some cls) _ (by unfold nf;rw[iN (λz=>z.elim h2 λz=>h3 z.1),iN h1]))
 .rintro _ ⟨y6,y7,y8,rfl⟩
  rw[Bj];exact Ax (d1 rfl rfl) rfl
end
structure Dg(kk cc:Nat->Str)(d:Str×List Kd×Kd):Prop where
 c:∃i,i < 3/\d.1=cc i
 l:d.2.1.length<=3
 g:∀x∈d.2.1++[d.2.2],Kg kk 1 x
 z:∃x∈d.2.1++[d.2.2],∃i,Kd.op i∈x.w
def An(dd:Nat->Str)(D:Nat->Str×List Kd×Kd)(n:Nat):List Row:=(List.range n).map λi=>.Ba (dd i) (D i).1 (D i).2.1 (D i).2.2
section
variable{k:Nat}{kk cc dd:Nat->Str}{o1 o2 o3:Bool}
theorem QY(w:Int):∃x:Kd,Kg kk 1 x/\(∃i,Kd.op i∈x.w)/\∀{cf:CF} {U:Env},A8 U 3=some (kL o3 kk)->A8 U 6=some (.p (.int w))->(den cf (.A1 Ae (.lst [{0,0},(.tup [{3,1,0},{0,0}])]) (.A1 (Aw Dt) (.A1 (Aw Ez) {6} {50,0}) {2,0}))).v U= .ok (.p x.p):=by
 rintro⟨i,hi,ei⟩:Al (w/50) (m:=2) #[];have e2:=tI (D6 (w/50) (j:=2) #[]) ei;rcases(by lia:i=0\/i=1)with rfl|rfl
 .exact#[.op 0,.inl #[.op 0,Nat.zero_lt_one,rfl],#[0,by simp[Kd.w]],λh3 h6=>d2 (dl (fz rfl (fz (dt (fz (d2 (T8 h3) rfl (Fq (m:=1) (b:=false) #[])) (fz rfl rfl))) rfl))) (d2 (d2 (T8 h6) rfl (Df w #[])) rfl e2) (AA rfl rfl)]
 .exact#[.mk (kk 1) [.op 0],.inr (.inl #[.op 0,Nat.zero_lt_one,rfl]),#[0,by simp[Kd.w,Kd.parts,Lf.k]],λh3 h6=>d2 (dl (fz rfl (fz (dt (fz (d2 (T8 h3) rfl (Fq (m:=1) (b:=false) #[])) (fz rfl rfl))) rfl))) (d2 (d2 (T8 h6) rfl (Df w #[])) rfl e2) (AA rfl rfl)]
theorem Nz(c:Int):∃(n:Nat) (D:Nat->Str×List Kd×Kd),(1<=n/\n<=3/\∀i,i < n->Dg kk cc (D i))/\cN (k + 3) 57 [.p (.int c),kL o1 dd,kL o2 cc,kL o3 kk]= .ok (.lst true ((An dd D n).map Row.p)):=by
 rintro⟨n,hn,en⟩:Al c (m:=3) #[];have e1:Ad (.p (.int 1)) (.p (.int (c%3)))=some (.p (.int ((1+n:Nat):Int))):=by rw[AK,show c%3=(n:Int)from en];rfl
 obtain ⟨_,e,D,h,rfl⟩:=cw (k:=k + 2) (args:=[.p (.int c),kL o1 dd,kL o2 cc,kL o3 kk]) (R:=λz=>∃D:Nat->Str×List Kd×Kd,(∀i,i < 1 + n->Dg kk cc (D i))/\z= .lst true ((An dd D (1 + n)).map Row.p)) (gF 55 rfl) (by
  refine Am (dl rfl) (EI (λj U=>∃(D:Nat->Str×List Kd×Kd) (y5 y6 y7 y8 y9:Option C),U=[sI c,some (kL o1 dd),some (kL o2 cc),some (kL o3 kk),sL true ((An dd D j).map Row.p),y5,y6,y7,y8,y9]/\∀i,i < j->Dg kk cc (D i)) (d2 rfl #[D6 c #[]] e1) (Cd (by lia)) #[λ_=>(cc 0,[],.op 0),_,_,_,_,_,rfl,λi h=>absurd h (Nat.not_lt_zero _)] ?_ ?_)
  .rintro j x hx _ ⟨D,y5,y6,y7,y8,y9,rfl,hD⟩
   rintro⟨hj,rfl⟩:BH hx;obtain⟨w,hw⟩:∃w,w=c/(3+4*(j:Int)):=#[_,rfl];have e6:Aw Ez (.p (.int c)) (.p (.int (3+4*(j:Int))))=some (.p (.int w)):=by rw[hw];exact Df c #[by lia,by lia]
   rintro⟨b,hb,eb⟩:Al w (m:=4) #[];have kx:∀i:Nat,∃x:Kd,Kg kk 1 x/\cN (k+2) 53 [.p (.int (w/((i:Int)+2))),kL false kk,.p (.int ((1:Nat):Int)),.p (.int 1)]= .ok (.p x.p):=λi=>PB (k:=k) (m:=1) #[] _ 1 rfl
   rintro⟨g,hg⟩:Classical.skolem.mp kx;rintro⟨r,hr,er⟩:PB (k:=k) (kk:=kk) (m:=1) (o:=false) #[] (w/7) 1 rfl;rintro⟨z,hz1,hz2,ez⟩:QY (kk:=kk) (o3:=o3) w;rintro⟨i,hi,ei⟩:Al (w/100) (m:=3) #[];have lb:((List.range b).map g).length=b:=by simp
   rintro⟨a,ha,ea⟩:Al (w/11) (m:=b+1) (by lia)
   have fin:∀(ks:List Kd) (r:Kd) (y9:Option C),ks.length<=3->(∀x∈ks++[r],Kg kk 1 x)->(∃x∈ks++[r],∃i,Kd.op i∈x.w)->WP ((k + 2)<<<[(.Ce 4 true (EJ LF) [(.tup [{"deed"},(.A1 Ae {1} {5}),(.A1 Ae {2} (.A1 (Aw Dt) (.A1 (Aw Ez) {6} {100,0}) {3,0})),(.Ak Jm {7}),{8}])])]>>>[sI c,some (kL o1 dd),some (kL o2 cc),some (kL o3 kk),sL true ((An dd D j).map Row.p),sI j,sI w,sL true (ks.map Kd.p),sP r.p,y9]) (λU=>∃(D:Nat->Str×List Kd×Kd) (y5 y6 y7 y8 y9:Option C),U=[sI c,some (kL o1 dd),some (kL o2 cc),some (kL o3 kk),sL true ((An dd D (j + 1)).map Row.p),y5,y6,y7,y8,y9]/\∀i,i < j + 1->Dg kk cc (D i)) (λz=>∃D:Nat->Str×List Kd×Kd,(∀i,i < 1 + n->Dg kk cc (D i))/\z= .lst true ((An dd D (1 + n)).map Row.p)):=λks r y9 h1 h2 h3=>by
    have e100:=tI (D6 (w/100) (j:=3) #[]) ei;refine Jh (ps:=(An dd D j).map Row.p) (p:=(Row.Ba (dd j) (cc i) ks r).p) (dt (fz rfl (fz #[Fq (kk:=dd) (by lia)] (fz (d2 rfl (d2 #[Df w #[]] rfl e100) (Fq hi)) (fz (d1 rfl rfl) (fz rfl rfl)))))) (by simp[An];lia) #[λm=>if m=j then(cc i,ks,r)else D m,sI j,sI w,sL true (ks.map Kd.p),sP r.p,y9,?_,λm hm=>?_]
    .have:An dd (λm=>if m=j then(cc i,ks,r)else D m) (j + 1)=An dd D j++[.Ba (dd j) (cc i) ks r]:=by
      unfold An;rw[range_succ,map_append,map_singleton];dsimp only;rw[iP rfl];exact congrArg (·++_) (map_congr_left λm hm=>by rw[iN (Nat.ne_of_lt (mem_range.mp hm))])
     rw[this,map_append (l₁:=An dd D j)];rfl
    .by_cases e:m=j
     .show Dg kk cc (if m=j then(cc i,ks,r)else D m);rw[iP e];exact#[#[i,hi,rfl],h1,h2,h3]
     .show Dg kk cc (if m=j then(cc i,ks,r)else D m);rw[iN e];exact hD m (by lia)
   have gks:∀x∈(List.range b).map g,Kg kk 1 x:=λx hx=>by rintro⟨i,_,rfl⟩:mem_map.mp hx;exact(hg i).1
   refine#[_,rfl,Am (d2 rfl (d2 rfl #[HA (i:=4) (j:=(j:Int)) (.inl #[by decide,by decide])] (AK 3 _)) e6) (Am (Qi (λi:Nat=>.int i) (List.range b) (λ_=>true) (λi=>(g i).p) #[tI (D6 w (j:=4) #[]) eb] (JB (by lia)) (by simp<;>lia) λi hi'=>#[_,rfl,rfl,λ_=>#[_,dc (ar (d2 rfl #[AK (i:Int) 2] (Df w #[by lia,by rw[mem_range]at hi';lia])) (ar rfl (ar rfl (ar rfl rfl)))) (hg i).2,rfl]]) ?_)];rw[filter_tt,show((List.range b).map λi=>(g i).p)=((List.range b).map g).map Kd.p from by rw[map_map];rfl];have e9:Aw Dt (.p (.int (w/11))) (.p (.int ((((List.range b).map g).map Kd.p).length+1)))=some (.p (.int a)):=tI (D6 _ (by simp<;>lia)) (by rw[lM,lb];exact ea);refine Am (dc (ar #[Df w #[]] (ar rfl (ar rfl (ar rfl rfl)))) er) (Am (d2 #[Df w #[]] (d2 (d1 rfl (B0 _)) rfl (AK _ 1)) e9) ?_)
   by_cases hab:a=b
   .refine wit (bb (d2 rfl (d1 rfl (B0 _)) (K4 (by rw[lM,lb,hab])))) (Am (ez rfl rfl) (Cn (fin _ z _ (by lia) (λx hx=>?_) #[z,by simp,hz2])));rcases mZ hx with hx|hx
    .exact gks x hx
    .rw[mE hx];exact hz1
   .refine XT (bb (d2 rfl (d1 rfl (B0 _)) (DR (by rw[lM,lb];lia)))) (NO (c:=.lst true (((List.range b).map g).map Kd.p)) (c':=.lst true ((((List.range b).map g).set a z).map Kd.p)) (ar (ez rfl rfl) (ar rfl rfl)) ?_ (Cn (fin (((List.range b).map g).set a z) r _ (by simp<;>lia) (λx hx=>?_) #[z,?_,hz2])))
    .show(((II (((List.range b).map g).map Kd.p).length (a:Int)).map λk=>nw ((((List.range b).map g).map Kd.p).set k z.p)) <|> _)=_;unfold II;rw[iP (by lia),iP (by rw[lM,lb];lia),Int.toNat_natCast,List.map_set];rfl
    .rcases mZ hx with hx|hx
     .rcases List.mem_or_eq_of_mem_set hx with hx|rfl
      .exact gks x hx
      .exact hz1
     .rw[mE hx];exact hr
    .refine mL (mem_of_getElem? (i:=a) ?_);rw[List.getElem?_set_self (by rw[lb];lia)]
  .rintro _ ⟨D,y5,y6,y7,y8,y9,rfl,hD⟩
   rw[Bj]at hD ⊢
   exact MK #[D,hD,rfl])
 exact#[1+n,D,#[by lia,by lia,h],e]
theorem turned(c:Int){rows:List Row}(hl:rows.length<=60):∃rs:List Row,rs.Perm rows/\cN (k + 1) 61 [.lst o1 (rows.map Row.p),.p (.int c)]= .ok (.lst true (rs.map Row.p)):=by
 rintro⟨_,e,rs,h,rfl⟩:cw (k:=k) (args:=[.lst o1 (rows.map Row.p),.p (.int c)]) (R:=λz=>∃rs:List Row,rs.Perm rows/\z= .lst true (rs.map Row.p)) (gF 59 rfl) (by
  refine Am (dl rfl) (R4 (c:=.lst o1 (rows.map Row.p)) (λj U=>∃(rs:List Row) (d:Int) (y:Option C),U=[sL false (rows.map Row.p),sI d,sL true (rs.map Row.p),y]/\rs.Perm (rows.take j)) rfl rfl #[[],c,_,rfl,List.Perm.refl _] ?_ ?_)
  .rintro j x hx _ ⟨rs,d,y,rfl,hp⟩
   rw[List.getElem?_map]at hx;rintro⟨r,hr,rfl⟩:oM hx;have hrl:rs.length<=60:=by rw[hp.length_eq,length_take];lia
   rintro⟨i,hi,ei⟩:Al ((d*48271+3)%2147483647) (m:=rs.length+1) (by lia);have e2:Aw Dt (.p (.int ((d*48271+3)%2147483647))) (.p (.int ((rs.map Row.p).length+1)))=some (.p (.int i)):=tI (D6 _ (by simp<;>lia)) (by rw[lM];exact ei);refine#[_,rfl,Am (d2 (d2 #[HA (i:=d) (j:=48271) (.inr #[by decide,by decide])] rfl (AK _ 3)) rfl (D6 _ #[])) (NO (c:=.lst true (rs.map Row.p)) (c':=.lst true ((rs.take i++r::rs.drop i).map Row.p)) (ar (d2 rfl (d2 (d1 rfl (B0 _)) rfl (AK _ 1)) e2) (ar rfl rfl)) ?_ #[rs.take i++r::rs.drop i,_,sP r.p,rfl,?_])]
   .show(if 0<=(i:Int)/\(i:Int)<=(rs.map Row.p).length/\(rs.map Row.p).length < big then some (nw ((rs.map Row.p).take (i:Int).toNat++r.p::(rs.map Row.p).drop (i:Int).toNat))else none)=_;rw[iP #[by lia,by simp<;>lia,show _ < 100000 by simp<;>lia],Int.toNat_natCast,map_append,map_cons,List.map_take,List.map_drop]
   .rw[take_add_one,hr,Option.toList_some];refine List.perm_middle.trans ?_;rw[take_append_drop];exact(List.Perm.cons r hp).trans (List.perm_append_singleton ..).symm
  .rintro _ ⟨rs,d,y,rfl,hp⟩
   rw[lM,take_length]at hp;have:∀{R:C->Prop} {N:Env->Prop} {b:Bool},R (.lst true (rs.map Row.p))->WP (k<<<[.CG 2]>>>(R5 (some (.lst b (rows.map Row.p))) 0 [sL false (rows.map Row.p),sI d,sL true (rs.map Row.p),y])) N R:=λ{R N b} h=>by cases b<;>exact MK h
   exact this #[rs,hp,rfl])
 exact#[rs,h,e]
end
def Cl(cc:Nat->Str)(el:Nat->List Str)(pk:Nat->Bool)(j:Nat):Prop:=pk j=true->∀i,i < 3->cc i∈el j->pk i=true
def kn(kk:Nat->Str)(n:Nat):Str:=if n < 3 then kk n else "whole"
def QR(kk cc:Nat->Str)(el:Nat->List Str)(c:Int)(n j:Nat):Row:=.Af (cc j) (kn kk n) (Gv (c/((n:Int)+2)) (n%3) (cc j) (el j) (cc 2))
def Ac(kk cc:Nat->Str)(el:Nat->List Str)(c:Int)(pk:Nat->Nat->Bool)(m:Nat):List Row:=(List.range m).flatMap λn=>((List.range 3).filter (pk n)).map (QR kk cc el c n)
abbrev bL(pk:Nat->Bool):List P:=[.bl (pk 0),.bl (pk 1),.bl (pk 2)]
section
variable{k:Nat}{kk cc:Nat->Str}{el:Nat->List Str}{o1 o2 o3 o:Bool}
variable{j:Nat}
theorem MB{pk:Nat->Bool}(h:j < 3):Ae (.lst o (bL pk)) (.p (.int j))=some (bC (pk j)):=AA (ps:=bL pk) rfl (by rcases(by lia:j=0\/j=1\/j=2)with rfl|rfl|rfl<;>rfl)
theorem Qo(h:j < 3):Ae (.lst false ((Ck cc el).map Row.p)) (.p (.int j))=some (.p (Row.cls (cc j) (el j)).p):=AA rfl (by rcases(by lia:j=0\/j=1\/j=2)with rfl|rfl|rfl<;>rfl)
theorem Zo(u:∀i j,i < 3->j < 3->cc i=cc j->i=j){i:Nat}(h:i < 3):Dx (kL false cc) (.p (.str (cc i)))=some (.p (.int i)):=by
 show((([cc 0,cc 1,cc 2]:List Str).idxOf? (cc i)).map λ(k:Nat)=>C.p (.int (k:Int)))=_;have ne:∀a b,a < 3->b < 3->a≠b->(cc a == cc b)=false:=λa b ha hb h=>beq_eq_false_iff_ne.mpr λe=>h (u a b ha hb e)
 rcases(by lia:i=0\/i=1\/i=2)with rfl|rfl|rfl
 .simp[List.idxOf?,List.findIdx?_cons]
 .simp[List.idxOf?,List.findIdx?_cons,ne 0 1 #[] #[] #[]]
 .simp[List.idxOf?,List.findIdx?_cons,ne 0 2 #[] #[] #[],ne 1 2 #[] #[] #[]]
theorem EA(g:Cg cc el)(hj:j < 3){x:Str}(h:x∈el j):∃i,i < j/\x=cc i:=by
 rcases(by lia:j=0\/j=1\/j=2)with rfl|rfl|rfl
 .rw[g.e0]at h;cases h
 .exact#[0,by decide,g.e1 x h]
 .rcases g.e2 x h with e|e
  .exact#[0,by decide,e]
  .exact#[1,by decide,e]
theorem mark(g:Cg cc el)(u:∀i j,i < 3->j < 3->cc i=cc j->i=j){a b d e:Option C}{R:C->Prop}{N:Env->Prop}{ss:List S}{pk:Nat->Bool}{y6 y8 y9 y10:Option C}(h:∀pk y6 y8,(∀j,j < 3->Cl cc el pk j)->WP (k<<<ss>>>[a,b,some (kL o2 cc),sL o3 ((Ck cc el).map Row.p),d,e,y6,sL true (bL pk),y8,y9,y10]) N R):
 WP (k<<<(.Di (.nm 6) AM (.lst [{2,0},{1,0},{0,0}]) [(.Di (.nm 8) AM (.A1 Ae (.A1 Ae {3} {6}) {2,0}) [(.ifs (.A1 Ae {7} {6}) [(.Ce 7 false (Ds λc x k=>Dp c k x) [(.cst (.p (.bl true))),(.A1 Dx {2} {8})])] [])])]::ss)>>>[a,b,some (kL o2 cc),sL o3 ((Ck cc el).map Row.p),d,e,y6,sL true (bL pk),y8,y9,y10]) N R:=by
 refine EI (xs:=[.int ((2:Nat):Int),.int ((1:Nat):Int),.int ((0:Nat):Int)]) (λt U=>∃pk y6 y8,U=[a,b,some (kL o2 cc),sL o3 ((Ck cc el).map Row.p),d,e,y6,sL true (bL pk),y8,y9,y10]/\∀j,j < 3->3<=t+j->Cl cc el pk j) (dl (fz rfl (fz rfl (fz rfl rfl)))) rfl #[pk,y6,y8,rfl,λj h1 h2=>by lia] ?_ ?_
 .rintro t x hx _ ⟨pk,y6,y8,rfl,hC⟩
  obtain⟨j,hj,htj,rfl⟩:∃j,j < 3/\t + j=2/\x= .int (j:Nat):=by
   rcases t with _|_|_|t
   .cases hx;exact#[2,by decide,rfl,rfl]
   .cases hx;exact#[1,by decide,rfl,rfl]
   .cases hx;exact#[0,by decide,rfl,rfl]
   .cases hx
  refine#[_,rfl,EI (λs U=>∃pk y8,U=[a,b,some (kL o2 cc),sL o3 ((Ck cc el).map Row.p),d,e,sI j,sL true (bL pk),y8,y9,y10]/\(∀j,j < 3->3<=t+j->Cl cc el pk j)/\(pk j=true->∀i,i < 3->cc i∈(el j).take s->pk i=true)) (d2 #[Qo hj] rfl #[2]) rfl #[pk,y8,rfl,hC,λ_ i _ h=>by cases h] ?_ ?_]
  .rintro s x hx _ ⟨pk,y8,rfl,hC,hP⟩
   rw[List.getElem?_map]at hx;rintro⟨z,hz,rfl⟩:oM hx;rintro⟨i,hi,rfl⟩:EA g hj (mem_of_getElem? hz);have tk:(el j).take (s+1)=(el j).take s++[cc i]:=by rw[take_add_one,hz];rfl
   refine#[_,rfl,?_];cases hp:pk j with
   |false=>exact Ag (bb #[by rw[<-hp];exact MB hj]) #[pk,_,rfl,hC,λh=>by rw[hp]at h;cases h]
   |true=>
     refine wit (bb #[by rw[<-hp];exact MB hj]) (NO (c:=.lst true (bL pk)) (c':=.lst true (bL λm=>if m=i then true else pk m)) (ar rfl (ar #[Zo u (by lia)] rfl)) ?_ (Cn #[λm=>if m=i then true else pk m,sS (cc i),rfl,λj' h1 h2=>?_,λh m hm hmem=>?_]))
     .rcases(by lia:i=0\/i=1)with rfl|rfl<;>rfl
     .intro h m hm hmem;show(if m=i then true else pk m)=true
      by_cases e:m=i
      .rw[iP e]
      .rw[iN e];refine hC j' h1 h2 ?_ m hm hmem;have h:(if j'=i then true else pk j')=true:=h;rwa[iN (by lia)]at h
     .show(if m=i then true else pk m)=true
      by_cases e:m=i
      .rw[iP e]
      .rw[iN e];rw[tk]at hmem;rcases mZ hmem with hmem|hmem
       .exact hP hp m hm hmem
       .exact absurd (u m i hm (by lia) (mE hmem)) e
  .rintro _ ⟨pk,y8,rfl,hC,hP⟩
   rw[lM,take_length]at hP;refine Cn #[pk,_,y8,rfl,λj' h1 h2=>?_]
   by_cases e:j'=j
   .rw[e];exact hP
   .exact hC j' h1 (by lia)
 .rintro _ ⟨pk,y6,y8,rfl,hC⟩
  exact h pk y6 y8 λj hj=>hC j hj (by show 3<=3+j;lia)
theorem Le(g:Cg cc el)(u:∀i j,i < 3->j < 3->cc i=cc j->i=j)(c:Int):∃pk:Nat->Nat->Bool,(∀n,n < 4->∀j,j < 3->Cl cc el (pk n) j)/\cN (k + 2) 59 [.p (.int c),kL o1 kk,kL o2 cc,.lst o3 ((Ck cc el).map Row.p)]= .ok (.lst true ((Ac kk cc el c pk 4).map Row.p)):=by
 have hlen:∀pk m,(Ac kk cc el c pk m).length<=3 * m:=λpk m=>by
  induction m with
  |zero=>exact Nat.le_refl _
  |succ m ih=>
    unfold Ac at ih ⊢;rw[range_succ (n:=m),flatMap_append,lA,flatMap_singleton,lM];have:((List.range 3).filter (pk m)).length<=(List.range 3).length:=length_filter_le _ _;rw[length_range]at this
    lia
 obtain ⟨_,e,pk,h,rfl⟩:=cw (k:=k + 1) (args:=[.p (.int c),kL o1 kk,kL o2 cc,.lst o3 ((Ck cc el).map Row.p)]) (R:=λz=>∃pk:Nat->Nat->Bool,(∀n,n < 4->∀j,j < 3->Cl cc el (pk n) j)/\z= .lst true ((Ac kk cc el c pk 4).map Row.p)) (gF 57 rfl) (by
  refine Am (dl rfl) (EI (λn U=>∃(pk:Nat->Nat->Bool) (y5 y6 y7 y8 y9 y10:Option C),U=[sI c,some (kL o1 kk),some (kL o2 cc),sL o3 ((Ck cc el).map Row.p),sL true ((Ac kk cc el c pk n).map Row.p),y5,y6,y7,y8,y9,y10]/\∀m,m < n->∀j,j < 3->Cl cc el (pk m) j) rfl (Cd (n:=4) #[]) #[λ_ _=>false,_,_,_,_,_,_,rfl,λm h=>absurd h (Nat.not_lt_zero _)] ?_ ?_)
  .rintro n x hx _ ⟨pk,y5,y6,y7,y8,y9,y10,rfl,hC⟩
   rintro⟨hn,rfl⟩:BH hx;have en:Ad (kL false kk) (.lst true [.str "whole"])=some (.lst true [.str (kk 0),.str (kk 1),.str (kk 2),.str "whole"]):=rfl;have ek:Ae (.lst true [.str (kk 0),.str (kk 1),.str (kk 2),.str "whole"]) (.p (.int n))=some (.p (.str (kn kk n))):=AA rfl (by rcases(by lia:n=0\/n=1\/n=2\/n=3)with rfl|rfl|rfl|rfl<;>rfl);refine#[_,rfl,Am (Qi (λi:Nat=>.int i) (List.range 3) (λ_=>true) (λi=>.bl (decide ((0:Int) < c/(7*(n:Int)+(i:Int)*i+1)%3))) rfl (JB (n:=3) #[]) (by simp) λi hi=>#[_,rfl,rfl,λ_=>#[_,d2 (d2 (d2 rfl (d2 (d2 #[HA (i:=7) (j:=(n:Int)) (.inl #[by decide,by decide])] #[HA (i:=(i:Int)) (j:=(i:Int)) (.inl #[by lia,by rw[mem_range]at hi;lia])] (AK _ _)) rfl (AK _ 1)) (Df c #[?_,?_])) rfl (D6 _ #[])) rfl rfl,rfl]]) ?_]
   .have:=Int.mul_nonneg (a:=(i:Int)) (b:=(i:Int)) (by lia) (by lia);lia
   .rw[mem_range]at hi;have:(i:Int)*(i:Int)<=3*3:=Int.mul_le_mul (by lia) (by lia) (by lia) (by lia);lia
   refine mark (pk:=λi=>decide ((0:Int) < c/(7*(n:Int)+(i:Int)*i+1)%3)) g u λp y6 y8 hp=>Am (d2 (d2 rfl (dl (fz rfl rfl)) en) rfl ek) (EI (λj U=>∃y6 y8 y10,U=[sI c,some (kL o1 kk),some (kL o2 cc),sL o3 ((Ck cc el).map Row.p),sL true ((Ac kk cc el c pk n++((List.range j).filter p).map (QR kk cc el c n)).map Row.p),sI n,y6,sL true (bL p),y8,sS (kn kk n),y10]) rfl (Cd (n:=3) #[]) #[y6,y8,_,by simp;rfl] ?_ ?_)
   .rintro j x hx _ ⟨y6,y8,y10,rfl⟩
    rintro⟨hj,rfl⟩:BH hx;refine#[_,rfl,?_];cases hpj:p j with
    |false=>exact Ag (bb #[by rw[<-hpj];exact MB hj]) #[some (.p (.int j)),y8,y10,by rw[range_succ (n:=j),filter_append,show[j].filter p=[]from by simp[hpj],append_nil];rfl]
    |true=>
      have e3:Aw Dt (.p (.int n)) (.p (.int 3))=some (.p (.int ((n%3:Nat):Int))):=(D6 _ #[]).trans (by rw[Int.natCast_emod];rfl);have hl1:=hlen pk n;have hl2:((List.range j).filter p).length<=j:=Nat.le_trans (length_filter_le _ _) (by rw[length_range];exact Nat.le_refl _);refine wit (bb #[by rw[<-hpj];exact MB hj]) (Am (dc (ar (d2 rfl #[AK (n:Int) 2] (Df c #[by lia,by lia])) (ar #[e3] (ar #[Fq hj] (ar (d2 #[Qo hj] rfl #[2]) (ar rfl rfl))))) (Za (k:=k) (cc:=cc) (c/((n:Int)+2)) (n:=n%3) (by lia) (cc j) (el j))) (Jh (ps:=(Ac kk cc el c pk n++((List.range j).filter p).map (QR kk cc el c n)).map Row.p) (p:=(QR kk cc el c n j).p) (dt (fz rfl (fz #[Fq hj] (fz rfl (fz rfl rfl))))) (by rw[lM,lA,lM];lia) (Cn #[some (.p (.int j)),y8,sP (.tup ((Gv (c/((n:Int)+2)) (n%3) (cc j) (el j) (cc 2)).map oP)),?_])));rw[range_succ (n:=j),filter_append,show[j].filter p=[j]from by simp[hpj],map_append (l₁:=(List.range j).filter p),map_singleton,<-append_assoc,map_append (l₁:=_++_)];rfl
   .rintro _ ⟨y6,y8,y10,rfl⟩
    rw[Bj];refine Cn #[λm=>if m=n then p else pk m,sI n,y6,sL true (bL p),y8,sS (kn kk n),y10,?_,λm hm=>?_]
    .have:Ac kk cc el c (λm=>if m=n then p else pk m) (n + 1)=Ac kk cc el c pk n++((List.range 3).filter p).map (QR kk cc el c n):=by
      unfold Ac;rw[range_succ (n:=n),flatMap_append,flatMap_singleton];dsimp only;rw[iP rfl];refine congrArg (·++_) ?_;rw[List.flatMap_def,List.flatMap_def];exact congrArg List.flatten (map_congr_left λm hm=>by rw[iN (Nat.ne_of_lt (mem_range.mp hm))])
     rw[this]
    .by_cases e:m=n
     .show ∀j,j < 3->Cl cc el (if m=n then p else pk m) j;rw[iP e];exact hp
     .show ∀j,j < 3->Cl cc el (if m=n then p else pk m) j;rw[iN e];exact hC m (by lia)
  .rintro _ ⟨pk,y5,y6,y7,y8,y9,y10,rfl,hC⟩
   rw[Bj]at hC ⊢
   exact MK #[pk,hC,rfl])
 exact#[pk,h,e]
end
def XE:Row->Str
 |.Af c _ _=>c
 |_=>""
def Zs:Row->Str
 |.Af _ q _=>q
 |_=>""
def Zp:Row->Bool
 |.Af ..=>true
 |_=>false
def Sa(c:Int)(i:Nat):Bool:=decide (c/((i:Int)+1)%2=1)
def OG(c:Int)(i:Nat)(C:Str)(q:Row×Nat):Bool:=decide (XE q.1=C) && (!Sa c i || decide (c/((q.2:Int)+2)%2=1))
def Mp(c:Int)(C d:Str)(m:Nat)(g:Int->Ex)(q:Row×Nat):Row:=.CS C (Zs q.1) d m (g (c/((q.2:Int)+3)))
def Ca(c:Int)(i:Nat)(C d:Str)(m:Nat)(g:Int->Ex)(hs:List Row):List Row:=(hs.zipIdx.filter (OG c i C)).map (Mp c C d m g)
def C9(c:Int)(i:Nat)(d:Str)(m:Nat)(g:Int->Ex):List Row:=if Sa c i then[.once d m (g (c/3))]else[]
def Bg(dd:Nat->Str)(D:Nat->Str×List Kd×Kd)(c:Int)(G:Nat->Int->Ex)(hs:List Row)(n:Nat):List Row:=(List.range n).flatMap λi=>C9 c i (dd i) (D i).2.1.length (G i)++Ca c i (D i).1 (dd i) (D i).2.1.length (G i) hs
theorem HS(c:Int)(i:Nat)(C d:Str)(m:Nat)(g:Int->Ex)(hs:List Row):(Ca c i C d m g hs).length<=hs.length:=by
 unfold Ca;rw[lM];exact Nat.le_trans (length_filter_le _ _) (by rw[List.length_zipIdx];exact Nat.le_refl _)
theorem F8(c:Int)(i:Nat)(d:Str)(m:Nat)(g:Int->Ex):(C9 c i d m g).length<=1:=by unfold C9;split<;>simp
theorem HR(dd:Nat->Str)(D:Nat->Str×List Kd×Kd)(c:Int)(G:Nat->Int->Ex)(hs:List Row):∀n,(Bg dd D c G hs n).length<=(1 + hs.length) * n
 |0=>Nat.le_refl _
 | n + 1=>by
   have ih:=HR dd D c G hs n;unfold Bg at ih ⊢;rw[range_succ (n:=n),flatMap_append,lA,flatMap_singleton,lA];have:=HS c n (D n).1 (dd n) (D n).2.1.length (G n) hs;have:=F8 c n (dd n) (D n).2.1.length (G n);rw[Nat.mul_succ]
   lia
theorem MA(dd:Nat->Str)(D:Nat->Str×List Kd×Kd)(c:Int)(G:Nat->Int->Ex)(hs:List Row)(n:Nat):Bg dd D c G hs (n + 1)=Bg dd D c G hs n++C9 c n (dd n) (D n).2.1.length (G n)++Ca c n (D n).1 (dd n) (D n).2.1.length (G n) hs:=by
 unfold Bg;rw[range_succ (n:=n),flatMap_append,flatMap_singleton,append_assoc]
theorem Tz(c:Int)(i:Nat)(C d:Str)(m:Nat)(g:Int->Ex){hs:List Row}{j:Nat}{h:Row}(e:hs[j]? =some h):Ca c i C d m g (hs.take (j + 1))=Ca c i C d m g (hs.take j)++if OG c i C (h,j)then[Mp c C d m g (h,j)]else[]:=by
 unfold Ca;have hl:(hs.take j).length=j:=by rw[length_take];have:=(List.getElem?_eq_some_iff.mp e).1;lia
 rw[take_add_one,e,Option.toList_some,List.zipIdx_append,hl,filter_append,map_append,Nat.zero_add,List.zipIdx_singleton];cases hp:OG c i C (h,j)with
 |true=>rw[iP rfl,List.filter_cons_of_pos hp];rfl
 |false=>rw[iN Bool.false_ne_true,List.filter_cons_of_neg (by simp[hp])];rfl
theorem UW{n:Nat}(h:n<=3):Ol (.p (.tup [.str "u",.str "v",.str "w"])) (.p (.int n))=some (.p (.tup ((Jj n).map P.str))):=by
 rcases(by lia:n=0\/n=1\/n=2\/n=3)with rfl|rfl|rfl|rfl<;>rfl
abbrev condB:T:=(.and (.A1 Bd {15,1,0} {9}) (.or (.not {13}) (.A1 Bd (.A1 (Aw Dt) (.A1 (Aw Ez) {0} (.A1 Ad {14} {2,0})) {2,0}) {1,0})))
abbrev Zg:List S:=[(.Di (.nm 14) DP (.Ak AD {2}) [(.asg (.nm 15) (.A1 Ae {2} {14})),(.ifs condB [(.asg (.nm 16) (.call 54 [(.A1 (Aw Ez) {0} (.A1 Ad {14} {3,0})),{12},{3},{5}])),(.Ce 4 true (EJ LF) [(.tup [{"does"},{9},{15,2,0},{8},{12},{16}])])] [])])]
variable{cf:CF}{U:Env}{t u:T}{a b:Bool}
theorem bW(e:(den cf t).b U= .ok a)(e2:(den cf u).b U= .ok b):(den cf (.and t u)).b U= .ok (a && b):=by
 cases a with
 |true=>exact Qz e e2
 |false=>exact UO e
theorem fg(e:(den cf t).b U= .ok a)(e2:(den cf u).b U= .ok b):(den cf (.or t u)).b U= .ok (a || b):=by
 cases a with
 |true=>exact Qu e
 |false=>exact CV e e2
theorem bV(e:(den cf t).b U= .ok a):(den cf (.not t)).b U= .ok (!a):=by
 cases a with
 |true=>exact GY e
 |false=>exact dk e
section
variable{k:Nat}{dd:Nat->Str}{o1 o2 o3:Bool}
theorem Tb{D:Nat->Str×List Kd×Kd}{n i:Nat}(h:i < n):(An dd D n)[i]? =some (.Ba (dd i) (D i).1 (D i).2.1 (D i).2.2):=by
 unfold An;rw[List.getElem?_map,List.getElem?_range h];rfl
theorem NF{n:Nat}(hn:n<=3){D:Nat->Str×List Kd×Kd}(hD:∀i,i < n->(D i).2.1.length<=3)(hdd:∀i,i < n->Ah (dd i)=true){fs:List Str}(hf:∀x∈fs,DU x=true)(h1:1<=fs.length)(hfl:fs.length<=100){hs:List Row}(hh:∀r∈hs,Zp r=true)(hhl:hs.length<=20)(c:Int):
 ∃G:Nat->Int->Ex,(∀i w,(G i w).ok)/\cN (k+2) 60 [.p (.int c),.lst o1 ((An dd D n).map Row.p),.lst o2 (hs.map Row.p),.lst o3 (fs.map P.str)]= .ok (.lst true ((Bg dd D c G hs n).map Row.p)):=by
 have hds:∀x∈(List.range n).map dd,Ah x=true:=λx hx=>by rintro⟨i,hi,rfl⟩:mem_map.mp hx;exact hdd i (mem_range.mp hi)
 have hg:∀i,∃g:Int->Ex,∀w,(g w).ok/\cN (k+1) 54 [.p (.int w),.p (.tup ((Jj (D i).2.1.length).map P.str)),.lst false (fs.map P.str),.lst false (((List.range n).map dd).map P.str)]= .ok (.p (g w).p):=λi=>Classical.skolem.mp λw=>expr (k:=k) w (Kr _).2.1 (Kr _).1 hf h1 hfl hds (by simp<;>lia)
 rintro⟨G,hG⟩:Classical.skolem.mp hg;refine#[G,λi w=>(hG i w).1,ce (gF 58 rfl) (Am (dl rfl) (Am (Qi Row.p (An dd D n) (λ_=>true) (λr=>.str (Mq r)) rfl rfl (by simp[An];lia) λr hr=>#[_,rfl,rfl,λ_=>?_]) ?_))]
 .unfold An at hr;rintro⟨i,_,rfl⟩:mem_map.mp hr;exact#[_,#[#[1]],rfl]
 rw[filter_tt,show((An dd D n).map λr=>P.str (Mq r))=((List.range n).map dd).map P.str from by unfold An;rw[map_map,map_map];rfl];refine EI (xs:=Az 0 n) (λi U=>∃y6 y7 y8 y9 y10 y11 y12 y13 y14 y15 y16,U=[sI c,sL o1 ((An dd D n).map Row.p),sL o2 (hs.map Row.p),sL o3 (fs.map P.str),sL true ((Bg dd D c G hs i).map Row.p),sL true (((List.range n).map dd).map P.str),y6,y7,y8,y9,y10,y11,y12,y13,y14,y15,y16]) (d1 rfl (B0 _)) (by rw[lM,show(An dd D n).length=n from by simp[An]];exact Cd (by lia)) #[_,_,_,_,_,_,_,_,_,_,_,rfl] ?_ ?_
 .rintro i x hx _ ⟨y6,y7,y8,y9,y10,y11,y12,y13,y14,y15,y16,rfl⟩
  rintro⟨hi,rfl⟩:BH hx;have ed:Ae (.lst false ((An dd D n).map Row.p)) (.p (.int i))=some (.p (Row.Ba (dd i) (D i).1 (D i).2.1 (D i).2.2).p):=AA rfl (by rw[List.getElem?_map,Tb hi];rfl);have eo:Bd (.p (.int (c/((i:Int)+1)%2))) (.p (.int 1))=some (bC (Sa c i)):=X6 _ _;have lR:=HR dd D c G hs i;have lR2:(1+hs.length)*i<=21*3:=Nat.mul_le_mul (by lia) (by lia);have lO:=F8 c i (dd i) (D i).2.1.length (G i);refine#[_,rfl,av #[ed] rfl (Am (d2 (dt (fz rfl (fz rfl (fz rfl rfl)))) (d1 rfl (Av _)) (by rw[lM];exact UW (hD i hi))) (Am (d2 (d2 (d2 rfl #[AK (i:Int) 1] (Df c #[by lia,by lia])) rfl (D6 _ #[])) rfl eo) ?_))]
  have rest:∀{y14 y15 y16:Option C},WP ((k + 1)<<<Zg>>>[sI c,sL o1 ((An dd D n).map Row.p),sL o2 (hs.map Row.p),sL o3 (fs.map P.str),sL true ((Bg dd D c G hs i++C9 c i (dd i) (D i).2.1.length (G i)).map Row.p),sL true (((List.range n).map dd).map P.str),sI i,sP (.str "deed"),sS (dd i),sS (D i).1,sP (.tup ((D i).2.1.map Kd.p)),sP (D i).2.2.p,sP (.tup ((Jj (D i).2.1.length).map P.str)),some (bC (Sa c i)),y14,y15,y16])
   (λU=>∃y6 y7 y8 y9 y10 y11 y12 y13 y14 y15 y16,U=[sI c,sL o1 ((An dd D n).map Row.p),sL o2 (hs.map Row.p),sL o3 (fs.map P.str),sL true ((Bg dd D c G hs (i+1)).map Row.p),sL true (((List.range n).map dd).map P.str),y6,y7,y8,y9,y10,y11,y12,y13,y14,y15,y16]) (λd=>C.lst true ((Bg dd D c G hs n).map Row.p)=d):=by
   intro y14 y15 y16;refine EI (xs:=Az 0 hs.length) (λj U=>∃y14 y15 y16,U=[sI c,sL o1 ((An dd D n).map Row.p),sL o2 (hs.map Row.p),sL o3 (fs.map P.str),sL true ((Bg dd D c G hs i++C9 c i (dd i) (D i).2.1.length (G i)++Ca c i (D i).1 (dd i) (D i).2.1.length (G i) (hs.take j)).map Row.p),sL true (((List.range n).map dd).map P.str),sI i,sP (.str "deed"),sS (dd i),sS (D i).1,sP (.tup ((D i).2.1.map Kd.p)),sP (D i).2.2.p,sP (.tup ((Jj (D i).2.1.length).map P.str)),some (bC (Sa c i)),y14,y15,y16]) (d1 rfl (B0 _)) (by rw[lM];exact Cd (by lia)) #[y14,y15,y16,by rw[show Ca c i (D i).1 (dd i) (D i).2.1.length (G i) (hs.take 0)=[]from rfl,append_nil]] ?_ ?_
   .rintro j x hx _ ⟨y14,y15,y16,rfl⟩
    rintro⟨hj,rfl⟩:BH hx;have ej:hs[j]? =some hs[j]:=List.getElem?_eq_getElem hj;have lD:=HS c i (D i).1 (dd i) (D i).2.1.length (G i) (hs.take j);rw[length_take]at lD;have st:=Tz c i (D i).1 (dd i) (D i).2.1.length (G i) ej;obtain⟨h,eh⟩:∃h,hs[j]=h:=#[_,rfl];have hx:=hh _ (getElem_mem hj);rw[eh]at ej st hx;cases h with
    |Af C q l=>
      have e15:Ae (.lst false (hs.map Row.p)) (.p (.int j))=some (.p (Row.Af C q l).p):=AA rfl (by rw[List.getElem?_map,ej];rfl)
      have hc:(den (cN (k + 1)) condB).b ([sI c,sL o1 ((An dd D n).map Row.p),sL o2 (hs.map Row.p),sL o3 (fs.map P.str),sL true ((Bg dd D c G hs i++C9 c i (dd i) (D i).2.1.length (G i)++Ca c i (D i).1 (dd i) (D i).2.1.length (G i) (hs.take j)).map Row.p),sL true (((List.range n).map dd).map P.str),sI i,sP (.str "deed"),sS (dd i),sS (D i).1,sP (.tup ((D i).2.1.map Kd.p)),sP (D i).2.2.p,sP (.tup ((Jj (D i).2.1.length).map P.str)),some (bC (Sa c i)),sI j,sP (Row.Af C q l).p,y16])= .ok (OG c i (D i).1 (.Af C q l,j)):=
       bW (bb (d2 #[#[1]] rfl de)) (fg (bV (bb rfl)) (bb (d2 (d2 (d2 rfl #[AK (j:Int) 2] (Df c #[by lia,by lia])) rfl (D6 _ #[])) rfl (X6 _ _))))
      refine#[_,rfl,Am #[e15] ?_];cases hp:OG c i (D i).1 (.Af C q l,j)with
      |false=>
        rw[hp]at st hc;exact Ag hc #[_,_,_,by rw[st,iN Bool.false_ne_true,append_nil];rfl]
      |true=>
        rw[hp,iP rfl]at st;rw[hp]at hc;refine wit hc (Am (dc (ar (d2 rfl #[AK (j:Int) 3] (Df c #[by lia,by lia])) (ar rfl (ar rfl (ar rfl rfl)))) (hG i _).2) (Jh (ps:=(Bg dd D c G hs i++C9 c i (dd i) (D i).2.1.length (G i)++Ca c i (D i).1 (dd i) (D i).2.1.length (G i) (hs.take j)).map Row.p) (p:=(Mp c (D i).1 (dd i) (D i).2.1.length (G i) (.Af C q l,j)).p) (dt (fz rfl (fz rfl (fz #[#[2]] (fz rfl (fz rfl (fz rfl rfl))))))) (by rw[lM,lA,lA];lia) (Cn #[_,_,_,by rw[st,<-append_assoc,map_append (l₁:=_++_++_)];rfl])))
    |_=>cases hx
   .rintro _ ⟨y14,y15,y16,rfl⟩
    rw[Bj,take_length,<-MA];exact Cn #[_,_,_,_,_,_,_,_,_,_,_,rfl]
  cases ho:Sa c i with
  |false=>
    have eO:C9 c i (dd i) (D i).2.1.length (G i)=[]:=by unfold C9;rw[ho,iN Bool.false_ne_true]
    rw[ho,eO,append_nil]at rest;exact Ag (bb (by rfl)) rest
  |true=>
    have eO:C9 c i (dd i) (D i).2.1.length (G i)=[.once (dd i) (D i).2.1.length (G i (c/3))]:=by unfold C9;rw[ho,iP rfl]
    rw[ho,eO]at rest;refine wit (bb (by rfl)) (Jh (ps:=(Bg dd D c G hs i).map Row.p) (p:=(Row.once (dd i) (D i).2.1.length (G i (c/3))).p) (dt (fz rfl (fz rfl (fz rfl (fz (dc (ar #[Df c #[]] (ar rfl (ar rfl (ar rfl rfl)))) (hG i _).2) rfl))))) (by rw[lM];lia) (Cn ?_));rw[map_append (l₁:=Bg dd D c G hs i)]at rest;exact rest
 .rintro _ ⟨y6,y7,y8,y9,y10,y11,y12,y13,y14,y15,y16,rfl⟩
  rw[Bj];exact MK rfl
end
structure Nm(f:Nat->Str):Prop where
 ok:∀i,i < 3->Ah (f i)=true/\f i∉Hf
 u:∀i j,i < 3->j < 3->f i=f j->i=j
structure Wg(kk cc dd:Nat->Str)(fs:List Str)(ff:Nat->List (Str×List Kd))(el:Nat->List Str)(n:Nat)(D:Nat->Str×List Kd×Kd)(pk:Nat->Nat->Bool)(G:Nat->Int->Ex):Prop where
 nk:Nm kk
 nc:Nm cc
 nd:Nm dd
 f6:Xr fs
 fN:("No":Str)∉fs
 fY:("Yes":Str)∉fs
 fk:∀m,m < 3->1<=(ff m).length/\Fg kk fs m (ff m)
 cg:Cg cc el
 n3:n<=3
 dg:∀i,i < n->Dg kk cc (D i)
 cl:∀a,a < 4->∀j,j < 3->Cl cc el (pk a) j
 gk:∀i w,(G i w).ok
def BW(kk:Nat->Str)(ff:Nat->List (Str×List Kd)):List Row:=(List.range 3).map λm=>Row.kind (kk m) m (ff m)
noncomputable def Bm(kk cc dd:Nat->Str)(ff:Nat->List (Str×List Kd))(el:Nat->List Str)(n:Nat)(D:Nat->Str×List Kd×Kd)(pk:Nat->Nat->Bool)(G:Nat->Int->Ex)(c c':Int)(ask:List Row):List Row:=BW kk ff++Ck cc el++An dd D n++Ac kk cc el c pk 4++Bg dd D c' G (Ac kk cc el c pk 4) n++ask
inductive Wr(kk cc dd:Nat->Str)(ff:Nat->List (Str×List Kd))(el:Nat->List Str)(n:Nat)(D:Nat->Str×List Kd×Kd)(pk:Nat->Nat->Bool)(c:Int):Row->Prop where
 |kind (m:Nat) (h:m < 3):Wr kk cc dd ff el n D pk c (.kind (kk m) m (ff m))
 |cls (j:Nat) (h:j < 3):Wr kk cc dd ff el n D pk c (.cls (cc j) (el j))
 |Ba (i:Nat) (h:i < n):Wr kk cc dd ff el n D pk c (.Ba (dd i) (D i).1 (D i).2.1 (D i).2.2)
 |Af (a j:Nat) (ha:a < 4) (hj:j < 3) (hp:pk a j=true):Wr kk cc dd ff el n D pk c (.Af (cc j) (kn kk a) (Gv (c/((a:Int)+2)) (a%3) (cc j) (el j) (cc 2)))
 |once (i:Nat) (h:i < n) (e:Ex) (he:e.ok):Wr kk cc dd ff el n D pk c (.once (dd i) (D i).2.1.length e)
 |CS (i a j:Nat) (h:i < n) (ha:a < 4) (hj:j < 3) (hp:pk a j=true) (hc:cc j=(D i).1) (e:Ex) (he:e.ok):Wr kk cc dd ff el n D pk c (.CS (D i).1 (kn kk a) (dd i) (D i).2.1.length e)
 |ask (e:Ex) (he:e.ok):Wr kk cc dd ff el n D pk c (.ask e)
section
variable{kk cc dd:Nat->Str}{fs:List Str}{ff:Nat->List (Str×List Kd)}{el:Nat->List Str}{n:Nat}{D:Nat->Str×List Kd×Kd}{pk:Nat->Nat->Bool}{G:Nat->Int->Ex}{c c':Int}{ask rs:List Row}
theorem HB{m:Nat}{r:Row}:r∈Ac kk cc el c pk m↔∃a j,a < m/\j < 3/\pk a j=true/\r=QR kk cc el c a j:=by
 unfold Ac;simp only[mem_flatMap,mem_map,mem_filter,mem_range];exact#[λ⟨a,ha,j,⟨hj,hp⟩,e⟩=>#[a,j,ha,hj,hp,e.symm],λ⟨a,j,ha,hj,hp,e⟩=>#[a,ha,j,#[hj,hp],e.symm]]
theorem Me{hs:List Row}{r:Row}:r∈Bg dd D c' G hs n↔∃i,i < n/\((Sa c' i=true/\r= .once (dd i) (D i).2.1.length (G i (c' / 3)))\/∃(h:Row) (t:Nat),hs[t]? =some h/\OG c' i (D i).1 (h,t)=true/\r=Mp c' (D i).1 (dd i) (D i).2.1.length (G i) (h,t)):=by
 unfold Bg Ca C9;simp only[mem_flatMap,mem_append,mem_map,mem_filter,mem_range];constructor
 .rintro⟨i,hi,h|⟨⟨h,t⟩,⟨hm,hp⟩,rfl⟩⟩
  .refine#[i,hi,.inl ?_];split at h
   .exact#[by assumption,mE h]
   .cases h
  .exact#[i,hi,.inr #[h,t,List.mk_mem_zipIdx_iff_getElem?.mp hm,hp,rfl]]
 .rintro⟨i,hi,⟨h,rfl⟩|⟨h,t,hm,hp,rfl⟩⟩
  .exact#[i,hi,.inl (by rw[iP h];exact .head _)]
  .exact#[i,hi,.inr #[(h,t),#[List.mk_mem_zipIdx_iff_getElem?.mpr hm,hp],rfl]]
theorem Ze(W:Wg kk cc dd fs ff el n D pk G)(ha:∀r∈ask,∃e:Ex,e.ok/\r= .ask e){r:Row}(h:r∈Bm kk cc dd ff el n D pk G c c' ask):Wr kk cc dd ff el n D pk c r:=by
 unfold Bm at h;simp only[mem_append]at h;rcases h with((((h|h)|h)|h)|h)|h
 .obtain⟨m,hm,rfl⟩:=mem_map.mp h;exact .kind m (mem_range.mp hm)
 .simp only[Ck,mem_cons,not_mem_nil,or_false]at h;rcases h with rfl|rfl|rfl
  .exact .cls 0 #[]
  .exact .cls 1 #[]
  .exact .cls 2 #[]
 .obtain⟨i,hi,rfl⟩:=mem_map.mp h;exact .Ba i (mem_range.mp hi)
 .obtain⟨a,j,ha,hj,hp,rfl⟩:=HB.mp h;exact .Af a j ha hj hp
 .obtain⟨i,hi,⟨_,rfl⟩|⟨h,t,hm,hp,rfl⟩⟩:=Me.mp h
  .exact .once i hi _ (W.gk i _)
  .obtain⟨a,j,ha,hj,hpk,rfl⟩:=HB.mp (mem_of_getElem? hm);rw[OG,bA]at hp;exact .CS i a j hi ha hj hpk (of_decide_eq_true hp.1) _ (W.gk i _)
 .obtain⟨e,he,rfl⟩:=ha r h;exact .ask e he
theorem Mg(W:Wg kk cc dd fs ff el n D pk G)(a:Nat):Ah (kn kk a)=true:=by
 unfold kn;split
 .exact(W.nk.ok a (by assumption)).1
 .decide +kernel
theorem bx(W:Wg kk cc dd fs ff el n D pk G){a b:Nat}(ha:a < 4)(hb:b < 4)(h:kn kk a=kn kk b):a=b:=by
 unfold kn at h;have w:("whole":Str)∈Hf:=.head _;split at h<;>split at h
 .exact W.nk.u a b (by assumption) (by assumption) h
 .exact absurd (h▸w) (W.nk.ok a (by assumption)).2
 .exact absurd (h▸w) (W.nk.ok b (by assumption)).2
 .lia
theorem XQ(W:Wg kk cc dd fs ff el n D pk G){r:Row}(h:Wr kk cc dd ff el n D pk c r):r.ok:=by
 have nk:∀i,i < 3->Ah (kk i)=true:=λi hi=>(W.nk.ok i hi).1
 have nc:∀i,i < 3->Ah (cc i)=true:=λi hi=>(W.nc.ok i hi).1
 have nn:∀i,i < n->Ah (dd i)=true:=λi hi=>(W.nd.ok i (by have:=W.n3;lia)).1
 have ne:∀j,j < 3->∀x∈el j,Ah x=true:=λj hj x hx=>by rintro⟨i,hi,rfl⟩:EA W.cg hj hx;exact nc i (by lia)
 have dc:∀i,i < n->Ah (D i).1=true:=λi hi=>by rintro⟨j,hj,e⟩:(W.dg i hi).c;rw[e];exact nc j hj
 cases h with
 |kind m h=>
   rintro⟨h1,h2,h3,h4⟩:W.fk m h
   exact⟨nk m h,by lia,h1,by lia,λf hf=>⟨by
    rintro⟨j,hj⟩:mem_iff_getElem?.mp hf
    exact W.f6.2.1 _ (mem_of_getElem? (h3 j f hj)),(h4 f hf).1,λx hx=>PC nk ((h4 f hf).2 x hx)⟩⟩
 |cls j h=>
   refine#[nc j h,?_,ne j h];rcases(by lia:j=0\/j=1\/j=2)with rfl|rfl|rfl
   .rw[W.cg.e0];exact Nat.zero_le _
   .have:=W.cg.l1;lia
   .have:=W.cg.l2;lia
 |Ba i h=>exact#[nn i h,dc i h,(W.dg i h).l,λx hx=>PC nk ((W.dg i h).g x (by simp[hx])),PC nk ((W.dg i h).g _ (by simp))]
 |Af a j ha hj hp=>
   refine#[nc j hj,Mg W a,by simp[Gv];lia,λe he=>?_];rintro⟨i,_,h⟩:mem_map.mp he;unfold nf at h;split at h
   .cases h
   .split at h
    .cases h;exact nc 2 #[]
    .cases h;exact nc j hj
 |once i h e he=>exact#[nn i h,he]
 |CS i a j h ha hj hp hc e he=>exact#[dc i h,Mg W a,nn i h,he]
 |ask e he=>exact he
abbrev kK(a:Str):List Str:=["kind",a]
abbrev fK(a:Str):List Str:=["form",a]
abbrev cK(a:Str):List Str:=["class",a]
abbrev uK(a:Str):List Str:=["function",a]
abbrev hK(c q:Str):List Str:=["house",c,q]
abbrev oK(d:Str):List Str:=["once",d]
abbrev sK(c q d:Str):List Str:=["does",c,q,d]
def kd(y:List Str):Str:=y.headD ""
theorem Mc{a b:List (List Str)}(A B:List Str)(ha:a.Nodup)(hb:b.Nodup)(h1:∀x∈a,kd x∈A)(h2:∀x∈b,kd x∈B)(h:(A.all λx=>!B.contains x)=true:=by decide +kernel):(a++b).Nodup:=by
 refine nodup_append.mpr #[ha,hb,λx hx y hy e=>?_];have:=all_eq_true.mp h _ (h1 x hx);rw[e,show B.contains (kd y)=true from by simpa using h2 y hy]at this;cases this
theorem KS{β:Type}{f:Nat->List β}{n:Nat}(h1:∀a,a < n->(f a).Nodup)(h2:∀a b,a < n->b < n->∀x∈f a,x∈f b->a=b):((List.range n).flatMap f).Nodup:=
 List.pairwise_flatMap.mpr ⟨λa ha=>h1 a (mem_range.mp ha),List.pairwise_lt_range.imp_of_mem λ{a b} ha hb hab x hx y hy e=>by
  have:=h2 a b (mem_range.mp ha) (mem_range.mp hb) x hx (e▸hy);lia⟩
theorem Md{β:Type}{f:Nat->β}{n:Nat}(h:∀a b,a < n->b < n->f a=f b->a=b):((List.range n).map f).Nodup:=
 pairwise_map.mpr (List.pairwise_lt_range.imp_of_mem λ{a b} ha hb hab e=>by have:=h a b (mem_range.mp ha) (mem_range.mp hb) e;lia)
def GD(r:Row):List Str:=hK (XE r) (Zs r)
theorem NW{m:Nat}:(Ac kk cc el c pk m).flatMap told=(Ac kk cc el c pk m).map GD:=by
 have:∀l:List Row,(∀r∈l,Zp r=true)->l.flatMap told=l.map GD:=by
  intro l
  induction l with
  |nil=>intro _;rfl
  |cons r l ih=>
    intro h;rw[flatMap_cons,map_cons,ih λx hx=>h x (.tail _ hx)];have:=h r (.head _);cases r with
    |Af a b l=>rfl
    |_=>cases this
 exact this _ λr hr=>by rintro⟨a,j,_,_,_,rfl⟩:HB.mp hr;rfl
theorem Zc(W:Wg kk cc dd fs ff el n D pk G):((Ac kk cc el c pk 4).map GD).Nodup:=by
 unfold Ac;rw[map_flatMap];refine KS (λa ha=>?_) λa b ha hb x hx hy=>?_
 .rw[map_map];refine pairwise_map.mpr (List.Pairwise.filter _ (List.pairwise_lt_range.imp_of_mem λ{i j} hi hj hij e=>?_));have e:hK (cc i) (kn kk a)=hK (cc j) (kn kk a):=e;have:=W.nc.u i j (mem_range.mp hi) (mem_range.mp hj) (by injection e with _ e;injection e)
  lia
 .obtain⟨r,hr,rfl⟩:=mem_map.mp hx;rintro⟨i,_,rfl⟩:mem_map.mp hr;rintro⟨r,hr,e⟩:mem_map.mp hy;rintro⟨j,_,rfl⟩:mem_map.mp hr;have e:hK (cc j) (kn kk b)=hK (cc i) (kn kk a):=e;exact(bx W hb ha (by injection e with _ e;injection e with _ e;injection e)).symm
theorem bt(W:Wg kk cc dd fs ff el n D pk G):((Bg dd D c' G (Ac kk cc el c pk 4) n).flatMap told).Nodup:=by
 have hn:=W.n3;unfold Bg;rw[List.flatMap_assoc]
 have k1:∀i,((C9 c' i (dd i) (D i).2.1.length (G i)).flatMap told).Nodup/\∀x∈(C9 c' i (dd i) (D i).2.1.length (G i)).flatMap told,x=oK (dd i):=λi=>by
  unfold C9;split
  .exact#[by simp[told],λx hx=>by simpa[told]using hx]
  .exact#[by simp,λx hx=>by simp at hx]
 have k2:∀i,(Ca c' i (D i).1 (dd i) (D i).2.1.length (G i) (Ac kk cc el c pk 4)).flatMap told=(((Ac kk cc el c pk 4).zipIdx).filter (OG c' i (D i).1)).map λq=>sK (D i).1 (Zs q.1) (dd i):=λi=>by
  unfold Ca;rw[flatMap_map];exact List.map_eq_flatMap.symm
 refine KS (λi hi=>?_) λi j hi hj x hx hy=>?_
 .rw [flatMap_append];refine Mc ["once"] ["does"] (k1 i).1 ?_ (λx hx=>by rw[(k1 i).2 x hx];exact .head _) λx hx=>?_
  .rw[k2];refine pairwise_map.mpr (List.Pairwise.imp_of_mem (R:=λq r=>GD q.1≠GD r.1) (λ{q r} hq hr h e=>h ?_) (List.Pairwise.filter _ ?_))
   .have hq:=(mem_filter.mp hq).2;have hr:=(mem_filter.mp hr).2;rw[OG,bA]at hq hr;have e1:=of_decide_eq_true hq.1;have e2:=of_decide_eq_true hr.1;unfold GD;rw[e1,e2,show Zs q.1=Zs r.1 from by injection e with _ e;injection e with _ e;injection e]
   .have:=Zc (c:=c) W;rw[<-List.zipIdx_map_fst 0 (Ac kk cc el c pk 4),map_map]at this;exact pairwise_map.mp this
  .rw[k2]at hx;rintro⟨q,_,rfl⟩:mem_map.mp hx;exact .head _
 .have key:∀i x,x∈(C9 c' i (dd i) (D i).2.1.length (G i)++Ca c' i (D i).1 (dd i) (D i).2.1.length (G i) (Ac kk cc el c pk 4)).flatMap told->x.getLast? =some (dd i):=λi x hx=>by
   rw[flatMap_append]at hx;rcases mZ hx with hx|hx
   .rw[(k1 i).2 x hx];rfl
   .rw[k2]at hx;rintro⟨q,_,rfl⟩:mem_map.mp hx;rfl
  exact W.nd.u i j (by lia) (by lia) (Option.some.inj ((key i x hx).symm.trans (key j x hy)))
end
theorem one_le{p:Nat->Bool}(h:∀i j,i < 3->j < 3->p i=true->p j=true->i=j):((List.range 3).filter p).length<=1:=by
 show(([0,1,2]:List Nat).filter p).length<=1;have a:=h 0 1 #[] #[];have b:=h 0 2 #[] #[];have c:=h 1 2 #[] #[];cases h0:p 0<;>cases h1:p 1<;>cases h2:p 2<;>simp[h0,h1,h2]at a b c ⊢
theorem OV:∀x∈Dr,(kd x="form"->x.getLastD ""="No"\/x.getLastD ""="Yes")/\(kd x≠"form"->x.getLastD ""∈Hf)/\kd x∈(["kind","form","function"]:List Str):=by decide +kernel
theorem LO{n:Nat}(h:n<=3):(Jj n).length=n:=by unfold Jj;rw[length_take];exact Nat.min_eq_left h
section
variable{kk cc dd:Nat->Str}{fs:List Str}{ff:Nat->List (Str×List Kd)}{el:Nat->List Str}{n:Nat}{D:Nat->Str×List Kd×Kd}{pk:Nat->Nat->Bool}{G:Nat->Int->Ex}{c c':Int}{ask rs:List Row}
theorem cZ(m:Nat):Ac kk cc el c pk (m + 1)=Ac kk cc el c pk m++((List.range 3).filter (pk m)).map (QR kk cc el c m):=by
 unfold Ac;rw[range_succ (n:=m),flatMap_append,flatMap_singleton]
theorem PZ:∀m,(Ac kk cc el c pk m).length<=3 * m
 |0=>Nat.le_refl _
 | m + 1=>by
   have:=PZ m;have h:((List.range 3).filter (pk m)).length<=(List.range 3).length:=length_filter_le _ _;rw[length_range]at h;rw[cZ,lA,lM]
   lia
theorem UC(W:Wg kk cc dd fs ff el n D pk G)(C:Str):∀m,((Ac kk cc el c pk m).filter λr=>decide (XE r=C)).length<=m
 |0=>Nat.le_refl _
 | m + 1=>by
   have:=UC W C m;rw[cZ,filter_append,lA,List.filter_map,lM,List.filter_filter]
   have:=one_le (p:=λj=>decide (XE (QR kk cc el c m j)=C) && pk m j) λi j hi hj h1 h2=>by
    rw[bA]at h1 h2;exact W.nc.u i j hi hj ((of_decide_eq_true h1.1).trans (of_decide_eq_true h2.1).symm)
   simp only[Function.comp_def]
   lia
theorem QA(W:Wg kk cc dd fs ff el n D pk G):∀m,(Bg dd D c' G (Ac kk cc el c pk 4) m).length<=5 * m
 |0=>Nat.le_refl _
 | m + 1=>by
   have:=QA W m;have h1:=F8 c' m (dd m) (D m).2.1.length (G m);have h2:=UC (c:=c) W (D m).1 4
   have h3:(Ca c' m (D m).1 (dd m) (D m).2.1.length (G m) (Ac kk cc el c pk 4)).length<=((Ac kk cc el c pk 4).filter λr=>decide (XE r=(D m).1)).length:=by
    unfold Ca
    conv=>rhs;rw[<-List.zipIdx_map_fst 0 (Ac kk cc el c pk 4),List.filter_map,lM]
    rw[lM,<-List.countP_eq_length_filter,<-List.countP_eq_length_filter];exact List.countP_mono_left λq _ h=>by rw[OG,bA]at h;exact h.1
   rw[MA,lA,lA]
   lia
theorem aw(W:Wg kk cc dd fs ff el n D pk G)(ha:∀r∈ask,∃e:Ex,e.ok/\r= .ask e):(Dr++(Bm kk cc dd ff el n D pk G c c' ask).flatMap told).Nodup:=by
 have hn:=W.n3
 have fi:∀m,m < 3->∀f∈ff m,∃j,j < 2/\fs[2 * m + j]? =some f.1:=λm hm f hf=>by
  rintro⟨j,hj⟩:mem_iff_getElem?.mp hf;have:=(List.getElem?_eq_some_iff.mp hj).1;exact#[j,by have:=(W.fk m hm).2.1;lia,(W.fk m hm).2.2.1 j f hj]
 have inj:∀i j (x:Str),fs[i]? =some x->fs[j]? =some x->i=j:=λi j x h1 h2=>(List.getElem?_inj (List.getElem?_eq_some_iff.mp h1).1 W.f6.2.2).mp (h1.trans h2.symm)
 have tk:∀(m:Nat) (x:List Str),x∈told (Row.kind (kk m) m (ff m))↔x=kK (kk m)\/∃f∈ff m,x=fK f.1:=λm x=>by simp[told,eq_comm]
 have nK :((BW kk ff).flatMap told).Nodup:=by
  unfold BW;rw[flatMap_map];refine KS (λm hm=>?_) λa b hA hB x hx hy=>?_
  .refine nodup_cons.mpr #[λh=>?_,?_]
   .obtain⟨f,_,e⟩:=mem_map.mp h;exact absurd (List.cons.inj e).1 (by decide +kernel)
   .have hl:=(W.fk m hm).2.1;have hp:=(W.fk m hm).2.2.1;rcases e:ff m with _|⟨a,_|⟨b,_|⟨_,_⟩⟩⟩
    .simp
    .simp
    .rw[e]at hp;refine nodup_cons.mpr #[λh=>?_,by simp];have h:=mE h;have h:a.1=b.1:=by injection h with _ h;injection h
     have:=inj _ _ _ (hp 0 a rfl) (h▸hp 1 b rfl)
     lia
    .rw[e]at hl;simp at hl
  .rcases(tk a x).mp hx with rfl|⟨f,hf,rfl⟩<;>rcases(tk b _).mp hy with e|⟨g,hg,e⟩
   .exact W.nk.u a b hA hB (by injection e with _ e;injection e)
   .exact absurd (List.cons.inj e).1 (by decide +kernel)
   .exact absurd (List.cons.inj e).1 (by decide +kernel)
   .obtain⟨i,hi,e1⟩:=fi a hA f hf;rintro⟨j,hj,e2⟩:fi b hB g hg;rw[show g.1=f.1 from by injection e with _ e;injection e with e;exact e.symm]at e2;have:=inj _ _ _ e1 e2
    lia
 have cKF:∀x∈(BW kk ff).flatMap told,(∃m,m < 3/\x=kK (kk m))\/∃f∈fs,x=fK f:=λx hx=>by
  unfold BW at hx;rw[flatMap_map]at hx;rintro⟨m,hm,hx⟩:mem_flatMap.mp hx;have hm:=mem_range.mp hm;rcases(tk m x).mp hx with rfl|⟨f,hf,rfl⟩
  .exact .inl #[m,hm,rfl]
  .obtain⟨j,_,e⟩:=fi m hm f hf;exact .inr #[f.1,mem_of_getElem? e,rfl]
 have n1:(Dr++(BW kk ff).flatMap told).Nodup:=by
  refine nodup_append.mpr #[by decide +kernel,nK,λx hx y hy e=>?_];subst e;rintro⟨o1,o2,_⟩:OV x hx;rcases cKF x hy with⟨m,hm,rfl⟩|⟨f,hf,rfl⟩
  .exact(W.nk.ok m hm).2 (o2 (show("kind":Str)≠"form" by decide +kernel))
  .rcases o1 rfl with e|e
   .exact W.fN ((show f="No" from e)▸hf)
   .exact W.fY ((show f="Yes" from e)▸hf)
 have s1:∀x∈Dr++(BW kk ff).flatMap told,kd x∈(["kind","form","function"]:List Str):=λx hx=>by
  rcases mZ hx with hx|hx
  .exact(OV x hx).2.2
  .rcases cKF x hx with⟨m,hm,rfl⟩|⟨f,hf,rfl⟩
   .exact .head _
   .exact .tail _ (.head _)
 have tC:(Ck cc el).flatMap told=(List.range 3).map λj=>cK (cc j):=rfl
 have n2:(Dr++(BW kk ff).flatMap told++(Ck cc el).flatMap told).Nodup:=by
  rw[tC]
  exact Mc ["kind","form","function"] ["class"] n1 (Md λa b ha hb e=>W.nc.u a b ha hb (by injection e with _ e;injection e)) s1 λx hx=>by
   rintro⟨j,_,rfl⟩:mem_map.mp hx;exact .head _
 have tD:(An dd D n).flatMap told=(List.range n).map λi=>uK (dd i):=by
  unfold An;rw[flatMap_map];exact List.map_eq_flatMap.symm
 have n3:(Dr++(BW kk ff).flatMap told++(Ck cc el).flatMap told++(An dd D n).flatMap told).Nodup:=by
  rw[tD];refine nodup_append.mpr #[n2,Md λa b ha hb e=>W.nd.u a b (by lia) (by lia) (by injection e with _ e;injection e),λx hx y hy e=>?_];subst e;rintro⟨i,hi,rfl⟩:mem_map.mp hy;have hi:=mem_range.mp hi;rcases mZ hx with hx|hx
  .rcases mZ hx with hx|hx
   .exact(W.nd.ok i (by lia)).2 ((OV _ hx).2.1 (show("function":Str)≠"form" by decide +kernel))
   .rcases cKF _ hx with⟨m,hm,e⟩|⟨f,hf,e⟩
    .exact absurd (List.cons.inj e).1 (by decide +kernel)
    .exact absurd (List.cons.inj e).1 (by decide +kernel)
  .rw[tC]at hx;rintro⟨j,_,e⟩:mem_map.mp hx;exact absurd (List.cons.inj e).1 (by decide +kernel)
 have s3:∀x∈Dr++(BW kk ff).flatMap told++(Ck cc el).flatMap told++(An dd D n).flatMap told,kd x∈(["kind","form","function","class"]:List Str):=λx hx=>by
  rw[tC,tD]at hx;rcases mZ hx with hx|hx
  .rcases mZ hx with hx|hx
   .exact List.mem_append_left [("class":Str)] (s1 x hx)
   .obtain⟨j,_,rfl⟩:=mem_map.mp hx;exact .tail _ (.tail _ (.tail _ (.head _)))
  .obtain⟨j,_,rfl⟩:=mem_map.mp hx;exact .tail _ (.tail _ (.head _))
 have n4:(Dr++(BW kk ff).flatMap told++(Ck cc el).flatMap told++(An dd D n).flatMap told++(Ac kk cc el c pk 4).flatMap told).Nodup:=by
  rw[NW]
  exact Mc ["kind","form","function","class"] ["house"] n3 (Zc W) s3 λx hx=>by
   rintro⟨j,_,rfl⟩:mem_map.mp hx;exact .head _
 have n5:(Dr++(BW kk ff).flatMap told++(Ck cc el).flatMap told++(An dd D n).flatMap told++(Ac kk cc el c pk 4).flatMap told++(Bg dd D c' G (Ac kk cc el c pk 4) n).flatMap told).Nodup:=by
  refine Mc ["kind","form","function","class","house"] ["once","does"] n4 (bt W) (λx hx=>?_) λx hx=>?_
  .rw[NW]at hx;rcases mZ hx with hx|hx
   .exact List.mem_append_left [("house":Str)] (s3 x hx)
   .obtain⟨j,_,rfl⟩:=mem_map.mp hx;exact .tail _ (.tail _ (.tail _ (.tail _ (.head _))))
  .obtain⟨r,hr,hx⟩:=mem_flatMap.mp hx;rintro⟨i,hi,⟨_,rfl⟩|⟨h,t,hm,hp,rfl⟩⟩:Me.mp hr
   .rw[mE hx];exact .head _
   .rw[mE hx];exact .tail _ (.head _)
 have tA:ask.flatMap told=[]:=List.flatMap_eq_nil_iff.mpr λr hr=>by rintro⟨e,_,rfl⟩:ha r hr;rfl
 unfold Bm;simp only[flatMap_append,tA,append_nil];simpa only[append_assoc]using n5
end
section
variable{kk cc dd:Nat->Str}{fs:List Str}{ff:Nat->List (Str×List Kd)}{el:Nat->List Str}{n:Nat}{D:Nat->Str×List Kd×Kd}{pk:Nat->Nat->Bool}{G:Nat->Int->Ex}{c c':Int}{ask rs:List Row}
theorem X2{w:Nat}{e C:Str}{ele elC:List Str}(hC: .cls C elC∈rs)(he:e∈elC):cy rs (nf w e ele d) (nf w C elC d):=by
 unfold nf
 by_cases h:w=2\/(w=3/\ele=[])
 .rw[iP h];exact .inl rfl
 .rw[iN h,iN (c:=w=2\/(w=3/\elC=[])) λz=>z.elim (λz=>h (.inl z)) λz=>by rw[z.2]at he;cases he]
  by_cases h1:w=1
  .rw[iP h1,iP h1];exact .inr (.inl rfl)
  .rw[iN h1,iN h1];exact .inr (.inr #[e,C,elC,rfl,rfl,hC,he])
def aH(cc:Nat->Str)(x:Str):Nat:=if x=cc 0 then 0 else if x=cc 1 then 1 else 2
theorem Ug(h:Nm cc){i:Nat}(hi:i < 3):aH cc (cc i)=i:=by
 unfold aH;rcases(by lia:i=0\/i=1\/i=2)with rfl|rfl|rfl
 .rw[iP rfl]
 .rw[iN λe=>by have:=h.u 1 0 #[] #[] e;lia,iP rfl]
 .rw[iN λe=>by have:=h.u 2 0 #[] #[] e;lia,iN λe=>by have:=h.u 2 1 #[] #[] e;lia]
theorem XW(W:Wg kk cc dd fs ff el n D pk G)(ha:∀r∈ask,∃e:Ex,e.ok/\r= .ask e)(hl:ask.length<=1)(hp:rs.Perm (Bm kk cc dd ff el n D pk G c c' ask)):Wf (aH cc) rs/\K3 rs kk:=by
 have hn:=W.n3;have mem:∀{r},r∈Bm kk cc dd ff el n D pk G c c' ask->r∈rs:=λh=>hp.mem_iff.mpr h
 have wr:∀r,r∈rs->Wr kk cc dd ff el n D pk c r:=λr h=>Ze W ha (hp.mem_iff.mp h)
 have mK:∀m,m < 3->.kind (kk m) m (ff m)∈rs:=λm h=>mem (by unfold Bm BW;simp only[mem_append,mem_map,mem_range];exact .inl (.inl (.inl (.inl (.inl #[m,h,rfl])))))
 have mC:∀j,j < 3->.cls (cc j) (el j)∈rs:=λj h=>mem (by
  unfold Bm;simp only[mem_append];refine .inl (.inl (.inl (.inl (.inr ?_))));rcases(by lia:j=0\/j=1\/j=2)with rfl|rfl|rfl
  .exact .head _
  .exact .tail _ (.head _)
  .exact .tail _ (.tail _ (.head _)))
 have mD:∀i,i < n->.Ba (dd i) (D i).1 (D i).2.1 (D i).2.2∈rs:=λi h=>mem (by unfold Bm An;simp only[mem_append,mem_map,mem_range];exact .inl (.inl (.inl (.inr #[i,h,rfl]))))
 have mH:∀a j,a < 4->j < 3->pk a j=true->QR kk cc el c a j∈rs:=λa j h1 h2 h3=>mem (by unfold Bm;simp only[mem_append];exact .inl (.inl (.inr (HB.mpr #[a,j,h1,h2,h3,rfl]))))
 have mB:∀{r},r∈Bg dd D c' G (Ac kk cc el c pk 4) n->r∈rs:=λh=>mem (by unfold Bm;simp only[mem_append];exact .inl (.inr h))
 have hK:∀i,i < 3->∃fs,.kind (kk i) i fs∈rs:=λi h=>#[_,mK i h]
 have invC:∀{x l},Row.cls x l∈rs->∃j,j < 3/\x=cc j/\l=el j:=λ{x l} h=>by
  obtain⟨r,e⟩:∃r,r=Row.cls x l:=#[_,rfl];have w:=wr r (e▸h);cases w with
  |cls j hj=>injection e with e1 e2;exact#[j,hj,e1.symm,e2.symm]
  |_=>cases e
 have invD:∀{x y ks r},Row.Ba x y ks r∈rs->∃i,i < n/\x=dd i/\y=(D i).1:=λ{x y ks r} h=>by
  obtain⟨r',e⟩:∃r',r'=Row.Ba x y ks r:=#[_,rfl];have w:=wr r' (e▸h);cases w with
  |Ba i hi=>injection e with e1 e2;exact#[i,hi,e1.symm,e2.symm]
  |_=>cases e
 have one:∀i,i < n->∀a j,a < 4->j < 3->pk a j=true->cc j=(D i).1->(∃m e,.once (dd i) m e∈rs)\/∃m e,.CS (cc j) (kn kk a) (dd i) m e∈rs:=λi hi a j ha hj hpk hc=>by
  cases ho:Sa c' i with
  |true=>exact .inl #[_,_,mB (Me.mpr #[i,hi,.inl #[ho,rfl]])]
  |false=>
    rintro⟨t,ht⟩:mem_iff_getElem?.mp (HB (c:=c).mpr #[a,j,ha,hj,hpk,rfl]);refine .inr #[(D i).2.1.length,G i (c'/((t:Int)+3)),?_];rw[hc];exact mB (Me.mpr #[i,hi,.inr #[_,t,ht,by unfold OG;rw[ho,dZ (show XE (QR kk cc el c a j)=(D i).1 from hc)];rfl,rfl]])
 have len:rs.length<=40:=by
  rw[hp.length_eq];have:=PZ (kk:=kk) (cc:=cc) (el:=el) (pk:=pk) (c:=c) 4;have:=QA (c:=c) (c':=c') W n;unfold Bm BW An;simp only[lA,lM,length_range];have:(Ck cc el).length=3:=rfl
  lia
 refine#[#[λr h=>XQ W (wr r h),len,((hp.flatMap_right told).append_left Dr).nodup_iff.mpr (aw W ha),λx l h e he=>?_,λr h=>?_],#[λx m f h=>?_,λm h=>#[_,mK m h]]]
 .obtain⟨j,hj,rfl,rfl⟩:=invC h;rintro⟨i,hi,rfl⟩:EA W.cg hj he;exact#[by rw[Ug W.nc hj,Ug W.nc (by lia)];exact hi,_,mC i (by lia)]
 .cases wr r h with
  |kind m hm=>exact λf hf x hx=>Ux hK (((W.fk m hm).2.2.2 f hf).2 x hx)
  |cls j hj=>trivial
  |Ba i hi=>
    rintro⟨j,hj,e⟩:(W.dg i hi).c;exact#[#[_,e▸mC j hj],λx hx=>Ux hK ((W.dg i hi).g x hx),(W.dg i hi).z]
  |Af a j ha hj hpk=>
    refine#[#[_,mC j hj,λe he=>?_],?_,λx hx=>?_,λx ks r hd=>?_]
    .obtain⟨i,hi,rfl⟩:=EA W.cg hj he;refine#[_,mH a i ha (by lia) (W.cl a ha j hj hpk i (by lia) he),λp hp=>?_];unfold Gv at hp;rw[List.zip_map']at hp;rintro⟨t,_,rfl⟩:mem_map.mp hp;exact X2 (mC j hj) he
    .have l:(Gv (c/((a:Int)+2)) (a%3) (cc j) (el j) (cc 2)).length=a%3:=by simp[Gv]
     rw[l];unfold kn;split
     .rw[Nat.mod_eq_of_lt (by assumption)];exact#[_,mR (mK a (by assumption))]
     .rw[show a=3 by lia];exact#[[],.head _]
    .obtain⟨i,_,h⟩:=mem_map.mp hx;unfold nf at h;split at h
     .cases h
     .split at h
      .cases h;exact#[_,mC 2 #[]]
      .cases h;exact#[_,mC j hj]
    .obtain⟨i,hi,rfl,e⟩:=invD hd;exact one i hi a j ha hj hpk e
  |once i hi e he=>exact#[_,_,_,mD i hi,LO (W.dg i hi).l]
  |CS i a j hi ha hj hpk hc e he=>
    exact#[#[_,hc▸(show Row.Af (cc j) (kn kk a) (Gv (c/((a:Int)+2)) (a%3) (cc j) (el j) (cc 2))∈rs from mH a j ha hj hpk)],_,_,mD i hi,LO (W.dg i hi).l]
  |ask e he=>trivial
 .obtain⟨r,e⟩:∃r,r=Row.kind x m f:=#[_,rfl];have w:=wr r (e▸h);cases w with
  |kind m' hm=>injection e with e1 e2;subst e2;exact#[hm,e1.symm]
  |_=>cases e
end
theorem add_r{a b:List Row}{o o':Bool}(h:a.length+b.length<=1000):Ad (.lst o (a.map Row.p)) (.lst o' (b.map Row.p))=some (.lst true ((a++b).map Row.p)):=(add_l (by rw[lA,lM,lM];lia)).trans (by rw[map_append (l₁:=a)])
theorem JM{f:Nat->Str}{g:Nat->Nat}(h:∀i j,i < 9->j < 9->f i=f j->i=j)(ok:∀i,i < 9->Ah (f i)=true/\f i∉Hf)(hg:∀i,i < 3->g i < 9)(hi:∀i j,i < 3->j < 3->g i=g j->i=j):Nm λi=>f (g i):=
 #[λi h3=>ok _ (hg i h3),λi j h1 h2 e=>hi i j h1 h2 (h _ _ (hg i h1) (hg j h2) e)]
section
variable{k:Nat}{ns:List Int}
theorem XR:∃(rs:List Row) (rk:Str->Nat) (kk:Nat->Str),cN (k + 12) 62 [.lst false (ns.map P.int)]= .ok (.lst true (rs.map Row.p))/\Wf rk rs/\K3 rs kk:=by
 have mx:∀i:Nat,i<=100->∃c:Int,cN (k + 11) 50 [.lst false (ns.map P.int),.p (.int i)]= .ok (.p (.int c)):=λi hi=>by
  rintro⟨c,_,e⟩:mixed (k:=k+10) (o:=false) ns i hi;exact#[c,e]
 rintro⟨c0,m0⟩:mx 0 #[];rintro⟨c1,m1⟩:mx 1 #[];rintro⟨c2,m2⟩:mx 2 #[];rintro⟨c3,m3⟩:mx 3 #[];rintro⟨c4,m4⟩:mx 4 #[];rintro⟨c5,m5⟩:mx 5 #[];rintro⟨c6,m6⟩:mx 6 #[];rintro⟨c7,m7⟩:mx 7 #[];rintro⟨c8,m8⟩:mx 8 #[];rintro⟨ws,⟨w9,wn,wd,w5⟩,eN⟩:names (k:=k+10) c1;obtain⟨f,hf⟩:∃f:Nat->Str,∀i,i < 9->ws[i]? =some (f i):=#[λi=>ws.getD i "",λi hi=>by show ws[i]? =some (ws.getD i "");rw[List.getD_eq_getElem?_getD,List.getElem?_eq_getElem (by lia)];rfl]
 have ew:ws=[f 0,f 1,f 2,f 3,f 4,f 5,f 6,f 7,f 8]:=ext_getElem? λi=>by
  by_cases h:i < 9
  .rw[hf i h];rcases(by lia:i=0\/i=1\/i=2\/i=3\/i=4\/i=5\/i=6\/i=7\/i=8)with rfl|rfl|rfl|rfl|rfl|rfl|rfl|rfl|rfl<;>rfl
  .rw[List.getElem?_eq_none (by lia),List.getElem?_eq_none (by simp;lia)]
 have fu:∀i j,i < 9->j < 9->f i=f j->i=j:=λi j hi hj e=>(List.getElem?_inj (by lia) wd).mp ((hf i hi).trans (e▸(hf j hj).symm))
 have fo:∀i,i < 9->Ah (f i)=true/\f i∉Hf:=λi hi=>#[wn _ (mem_of_getElem? (hf i hi)),λh=>w5 _ h (mem_of_getElem? (hf i hi))]
 have nk:Nm f:=JM (g:=id) fu fo (λi h=>Nat.lt_of_lt_of_le h #[]) λi j _ _ e=>e
 subst ew;rintro⟨fs,⟨f6,fN,fY⟩,eF⟩:Lm (k:=k+10) c2
 have rest:∀{cc dd:Nat->Str} {y6 y7 y8 y9 y10:Option C},Nm cc->Nm dd->WP ((k + 11)<<<(dC.drop 6)>>>[sL false (ns.map P.int),sI c0,sL true ([f 0,f 1,f 2,f 3,f 4,f 5,f 6,f 7,f 8].map P.str),some (kL true f),some (kL true cc),some (kL true dd),y6,y7,y8,y9,y10]) (λ_=>False) (λz=>∃(rs:List Row) (rk:Str->Nat) (kk:Nat->Str),z= .lst true (rs.map Row.p)/\Wf rk rs/\K3 rs kk):=by
  intro cc dd y6 y7 y8 y9 y10 nc nd;rintro⟨el,hcg,eC⟩:LC (k:=k+10) (cc:=cc) (o:=false) c3;rintro⟨n,D,⟨n1,n3,dg⟩,eD⟩:Nz (k:=k+8) (kk:=f) (cc:=cc) (dd:=dd) (o1:=false) (o2:=false) (o3:=false) c4;rintro⟨pk,hcl,eH⟩:Le (k:=k+9) (kk:=f) (o1:=false) (o2:=false) (o3:=false) hcg nc.u c5;rintro⟨ff,hff,eK⟩:Ng (k:=k+8) (kk:=f) (o:=false) (o':=false) c6 (fs:=fs) f6.1;have lh:=PZ (kk:=f) (cc:=cc) (el:=el) (pk:=pk) (c:=c5) 4;rintro⟨G,hG,eB⟩:NF (k:=k+9) (dd:=dd) (o1:=false) (o2:=false) (o3:=false) n3 (λi hi=>(dg i hi).l) (λi hi=>(nd.ok i (by lia)).1) f6.2.1 (by rw[f6.1];decide) (by rw[f6.1];decide) (hs:=Ac f cc el c5 pk 4) (λr hr=>by rintro⟨a,j,_,_,_,rfl⟩:HB.mp hr;rfl) (by lia) c7;have W:Wg f cc dd fs ff el n D pk G:=#[nk,nc,nd,f6,fN,fY,hff,hcg,n3,dg,hcl,hG];have lb:=QA (c:=c5) (c':=c7) W n;have lk:(BW f ff).length=3:=by simp[BW]
  have lc:(Ck cc el).length=3:=rfl;have ld:(An dd D n).length=n:=by simp[An]
  have last:∀{y6 y7 y8 y9 y5:Option C} (ask:List Row),(∀r∈ask,∃e:Ex,e.ok/\r= .ask e)->ask.length<=1->WP ((k + 11)<<<[(.ret (.call 61 [{10},(.call 50 [{0},{8,0}])]))]>>>[sL false (ns.map P.int),sI c0,sL true ([f 0,f 1,f 2,f 3,f 4,f 5,f 6,f 7,f 8].map P.str),some (kL true f),some (kL true cc),y5,y6,y7,y8,y9,sL true ((Bm f cc dd ff el n D pk G c5 c7 ask).map Row.p)]) (λ_=>False) (λz=>∃(rs:List Row) (rk:Str->Nat) (kk:Nat->Str),z= .lst true (rs.map Row.p)/\Wf rk rs/\K3 rs kk):=λ{y6 y7 y8 y9 y5} ask ha hl=>by
   rintro⟨rs,hp,eT⟩:turned (k:=k+10) (o1:=false) c8 (rows:=Bm f cc dd ff el n D pk G c5 c7 ask) (by unfold Bm;simp only[lA];lia);rintro⟨w1,w2⟩:XW W ha hl hp;exact Ax (EB rfl (EB rfl rfl m8) eT) #[rs,_,_,rfl,w1,w2]
  refine Am (EB (EB rfl rfl m2) rfl eF) (Am (EB (EB rfl rfl m3) rfl eC) (Am (dc (ar (EB rfl rfl m4) (ar rfl (ar rfl (ar rfl rfl)))) eD) (Am (dc (ar (EB rfl rfl m5) (ar rfl (ar rfl (ar rfl rfl)))) eH) (Am (d2 (d2 (d2 (dc (ar (EB rfl rfl m6) (ar rfl (ar rfl rfl))) eK) rfl (add_r (a:=BW f ff) (b:=Ck cc el) (by lia))) rfl (add_r (b:=An dd D n) (by rw[lA];lia))) rfl (add_r (b:=Ac f cc el c5 pk 4) (by simp only[lA];lia))) (Am (d2 rfl (dc (ar (EB rfl rfl m7) (ar rfl (ar rfl (ar rfl rfl)))) eB) (add_r (b:=Bg dd D c7 G (Ac f cc el c5 pk 4) n) (by simp only[lA];lia))) ?_)))));rintro⟨b,hb,eb⟩:Al (c0/3) (m:=2) #[];have em:Aw Dt (.p (.int (c0/3))) (.p (.int 2))=some (.p (.int b)):=tI (D6 _ (j:=2) #[]) eb
  by_cases h:b=1
  .obtain⟨e,he,ee⟩:=expr (k:=k+10) (o:=false) (o':=true) (c0/6) (ps:=[]) (fs:=fs) (ds:=[dd 0]) (λx hx=>by cases hx) #[] f6.2.1 (by rw[f6.1];decide) (by rw[f6.1];decide) (λx hx=>by rw[mE hx];exact(nd.ok 0 #[]).1) (Nat.le_of_ble_eq_true rfl);refine wit (bb (d2 (d2 #[Df c0 #[]] rfl em) rfl (K4 (by rw[h];rfl)))) (Jh (ps:=(BW f ff++Ck cc el++An dd D n++Ac f cc el c5 pk 4++Bg dd D c7 G (Ac f cc el c5 pk 4) n).map Row.p) (p:=(Row.ask e).p) (dt (fz rfl (fz (dc (ar #[Df c0 #[]] (ar (dt rfl) (ar rfl (ar #[rfl] rfl)))) ee) rfl))) (by rw[lM];simp only[lA];lia) (Cn ?_));have:=last (y5:=some (kL true dd)) (y6:=some (.lst true (fs.map P.str))) (y7:=some (.lst true ((Ck cc el).map Row.p))) (y8:=some (.lst true ((An dd D n).map Row.p))) (y9:=some (.lst true ((Ac f cc el c5 pk 4).map Row.p))) [.ask e] (λr hr=>#[e,he,mE hr]) (Nat.le_refl 1);unfold Bm at this;rw[map_append (l₁:=_++_)]at this;exact this
  .have:=last (y5:=some (kL true dd)) (y6:=some (.lst true (fs.map P.str))) (y7:=some (.lst true ((Ck cc el).map Row.p))) (y8:=some (.lst true ((An dd D n).map Row.p))) (y9:=some (.lst true ((Ac f cc el c5 pk 4).map Row.p))) [] (λr hr=>by cases hr) (Nat.zero_le 1);unfold Bm at this;rw[append_nil]at this;exact Ag (bb (d2 (d2 #[Df c0 #[]] rfl em) rfl (DR (by lia)))) this
 rintro⟨z,e,rs,rk,kk,rfl,w1,w2⟩:cw (k:=k + 11) (args:=[.lst false (ns.map P.int)]) (R:=λz=>∃(rs:List Row) (rk:Str->Nat) (kk:Nat->Str),z= .lst true (rs.map Row.p)/\Wf rk rs/\K3 rs kk) (gF 60 rfl) (by
  rintro⟨b,hb,eb⟩:Al c0 (m:=3) #[];have em:Aw Dt (.p (.int c0)) (.p (.int 3))=some (.p (.int b)):=tI (D6 _ (j:=3) #[]) eb;refine Am (EB rfl rfl m0) (Am (EB (EB rfl rfl m1) rfl eN) (Am (c:=kL true f) #[rfl] (Am (c:=kL true λi=>f (3+i)) (d3 rfl rfl rfl rfl) (Am (c:=kL true λi=>f (6+i)) #[rfl] ?_))))
  by_cases h:b=1
  .have:=rest (y6:=none) (y7:=none) (y8:=none) (y9:=none) (y10:=none) (JM (f:=f) (g:=λi=>(i+2)%3) fu fo (λi h=>by lia) λi j h1 h2 e=>by lia) (JM (f:=f) (g:=λi=>(i+1)%3) fu fo (λi h=>by lia) λi j h1 h2 e=>by lia);exact wit (bb (d2 #[em] rfl (K4 (by rw[h];rfl)))) (Am (c:=kL true λi=>f ((i+2)%3)) (dl (fz #[#[2]] (fz #[#[0]] (fz #[#[1]] rfl)))) (Am (c:=kL true λi=>f ((i+1)%3)) (dl (fz #[#[1]] (fz #[#[2]] (fz #[#[0]] rfl)))) (Cn (Hl (λ_ h=>h.elim) (λz h=>h) this))))
  .exact Ag (bb (d2 #[em] rfl (DR (by lia)))) (Hl (λ_ h=>h.elim) (λz h=>h) (rest (JM (f:=f) (g:=λi=>3+i) fu fo (λi h=>by lia) λi j h1 h2 e=>by lia) (JM (f:=f) (g:=λi=>6+i) fu fo (λi h=>by lia) λi j h1 h2 e=>by lia))))
 exact#[rs,rk,kk,e,w1,w2]
end
end Nv
namespace Lk17
open PySem Nv
theorem SE:∀ns:List Int,ns.length<=63->Be fns As 98 68 [.lst false (ns.map .int)]= .ok (.p (.bl true)):=λns _=>WB (k:=85) (XR (k:=85))
end Lk17
open PySem PySem.W PyProof.Rows
set_option maxRecDepth 100000 in
set_option maxHeartbeats 0 in
theorem PySem.Challenge.cw_kinddeeds_k17_tree_walked_holds : PySem.Challenge.rw_kinddeeds_k17_tree_walked.Holds := by
  w_on; o_law; k_head; (case hw => w_witness2)
  k_fill
  refine Nv.walk (l := PySem.Challenge.rw_kinddeeds_k17_tree_walked) 63 200 [(306, 302)] rfl (by decide) rfl ⟨rfl, by decide, by decide⟩ (fun w h Y => PySem.W.km_in_of Y) (fun w h Y p hp => PySem.W.km_tabs_of Y p (by simp only [List.map_cons, List.map_nil, List.mem_cons, List.not_mem_nil, or_false] at hp ⊢; exact hp)) ?F
  case F =>
    intro w mg fa h KX G hmg
    apply Lk17.all_mk Lk17.SE KX G hmg
    all_goals first
      | k_is
      | exact ⟨by k_is, ⟨⟨_, _, _, _, _, _, _, _, _, rfl, by k_is, by k_is⟩, by k_is⟩⟩
      | exact ⟨⟨by k_is, by k_is⟩, ⟨⟨_, _, _, _, _, _, _, _, _, rfl, by k_is, by k_is⟩, by k_is⟩⟩
      | rfl
      | kernel_rfl
      | (repeat first | exact Nv.Each.nil | refine Nv.Each.cons (by k_is) ?_)
