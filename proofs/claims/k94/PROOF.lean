import PyProof.Rows.All
import KE.KSortTup
import KE.KDictSum
import KE.KDictOf
import KE.KIntText
import KE.KFromBytes
import KE.KIsAll
import KE.KPairComp
import KE.KRevIter
import Wide.FinOn
import PySem.Challenge.RW_squaresheet_k94_desk_rows
set_option Elab.async false
set_option linter.all false
set_option maxRecDepth 100000
namespace PySem.W.Fast
def tw6036212039029427896:=0
def tw5250341229818466948:=0
def tw10815955518735806646:=0
def tw9964839097771679373:=0
def tw11105687190933199199:=0
def tw14816827693692956706:=0
def tw1273747076312105261:=0
def tw12655553279328109434:=0
def tw18191262286422399677:=0
def tw12844939620542258463:=0
def tw18131737344586865873:=0
def tw13062616047298458618:=0
def tw296066643700711315:=0
def tw16785085686216034292:=0
def tw6263215962530002298:=0
def tw6447470723059564784:=0
def tw1343262092310311823:=0
def tw10247811680838969851:=0
def tw5658433860762516829:=0
def tw5155976489534676324:=0
def tw16610967960617728114:=0
def tw12664030721341201195:=0
def tw212906856430126972:=0
def tw10515534484522218500:=0
def tw3656694018458737078:=0
def tw11030715069957199707:=0
def tw10194869800765155147:=0
def tw13761771247138297647:=0
def tw6259121581843730980:=0
def tw18164229450380916343:=0
def tw16719948251060795006:=0
def tw8333118827310157315:=0
def tw3001680616847739129:=0
def tw6485040938658815947:=0
def tw3270157284195036718:=0
def tw16399627493739861471:=0
def tw13513434212470216711:=0
def tw8868613723083581447:=0
def tw16468702075311100909:=0
def tw15917938953522927942:=0
def tw2445259742721242260:=0
def tw114556644135171773:=0
def tw16126711852191976246:=0
def tw10124919892475017917:=0
def tw9023286387835434793:=0
def tw10300447353999059263:=0
def tw1993365735353677777:=0
def tw10887797088846058035:=0
def tw15198758908119602470:=0
def tw2141510337880020364:=0
def tw7749412912321514892:=0
def tw13970909188769482186:=0
def tw7964381355364734823:=0
def tw14292150495827542647:=0
def tw2957319350715454269:=0
def tw16449553623047326396:=0
def tw2767957080717216850:=0
def tw1796894148281078346:=0
def tw14944546498846110775:=0
def tw7391057692258107753:=0
def tw17295238163759817549:=0
def tw7710146273314947978:=0
def tw14085268639630535743:=0
def tw6951604422471498199:=0
def tw9432223386028735455:=0
def tw1253295770579152125:=0
def tw13542613950582885522:=0
def tw2355117438901169303:=0
def tw15750710688765862636:=0
def tw463509138715521205:=0
def tw5040496017814430227:=0
def tw7593835148319936924:=0
def tw2263963437936656633:=0
def tw5727280566521815304:=0
def tw12067692748940072274:=0
def tw10439183434046844348:=0
def tw3328087045284332499:=0
def tw17530056155640566925:=0
def tw10126036533382294382:=0
def tw9100757171507958653:=0
def tw9591499361574692193:=0
def tw398137440520137657:=0
def tw13169663238226243142:=0
def tw18069702243702256671:=0
def tw11012591920220384714:=0
def tw12308052000374898848:=0
def tw18416485835836621176:=0
def tw15136615632253380435:=0
def tw3066901662656387702:=0
def tw15117459744465212175:=0
def tw10266103950956432239:=0
def tw11738377464598955239:=0
def tw5799809901088357648:=0
def tw16994398379689102753:=0
def tw6600365786710519166:=0
def tw17426798451326830339:=0
def tw2966795673971050763:=0
def tw6750634276491748171:=0
def tw3395938769371191880:=0
def tw9291665858411110776:=0
def tw17305854514501487163:=0
def tw4889770410024372692:=0
def tw6606113250550835400:=0
def tw5665396504581091508:=0
def tw263846646219948281:=0
def tw11196550805058674961:=0
def tw18155002700797346626:=0
def tw488006375411761368:=0
def tw11183885542075427839:=0
def tw210509977529131427:=0
def tw17080860306843266421:=0
def tw12954701284474524520:=0
def tw16349483550890668416:=0
def tw11559686375138259609:=0
def tw2307088633165442516:=0
def tw10738758482516736976:=0
def tw3035072627610154433:=0
def tw6400433994519041935:=0
def tw8941840014187949480:=0
def tw4301990551113889555:=0
def tw8068294870722945470:=0
def tw4553602575165912524:=0
def tw17877291883291874540:=0
def tw4304041844800107270:=0
def tw777086756457393397:=0
def tw5623199362401398007:=0
def tw7703203703575130186:=0
def tw6119824273605381119:=0
def tw9570359134054609775:=0
def tw12108313845124078430:=0
def tw2852382582408966529:=0
def tw2877439814756045028:=0
def tw8785677739099434702:=0
def tw6449567326036023322:=0
def tw1693009086705417487:=0
def tw2835400501516917194:=0
def tw13103780891066952936:=0
def tw4548746621768201499:=0
def tw3787338451579546961:=0
def tw8968453054777632790:=0
def tw500930150539075591:=0
def tw4044718781937858162:=0
def tw14469516848804206720:=0
def tw83540748354845023:=0
def tw50151428998328926:=0
def tw4693989798818550701:=0
def tw7250995294953591578:=0
def tw638298269959328159:=0
def tw10793193006417975487:=0
def tw11278400317186259976:=0
def tw190090252623078194:=0
def tw9195617191613608102:=0
def tw10631456364919584614:=0
def tw12938193785612030231:=0
def tw4695128142299882782:=0
def tw7350979320412032451:=0
def tw10558721206750779033:=0
def tw10825084036887491583:=0
def tw12829497733745213863:=0
def tw8023276411774199540:=0
def tw15366142544825268174:=0
def tw3728342758137267981:=0
def tw5510319431581592680:=0
def tw13504104319258464067:=0
def tw4418106973341205817:=0
def tw8967564000897567878:=0
def tw11346734373007560281:=0
def tw17650619473099009828:=0
def tw10846762415135155577:=0
def tw10190403312873971806:=0
def tw18357970001767872916:=0
def tw4700438346494003931:=0
def tw12425463061815580997:=0
def tw5696838127031266452:=0
def tw11450881870395573386:=0
def tw4713580705080254503:=0
def tw2208338842794964012:=0
def tw17911385138352369705:=0
def tw14862472938328800843:=0
def tw8508897425100362392:=0
def tw17765106192634428940:=0
def tw7149615337468519197:=0
def tw7588903711059599826:=0
def tw18077920518816873898:=0
def tw10224792579538867505:=0
def tw15904698042384446948:=0
def tw4188833693291354377:=0
def tw4215773183380644952:=0
def tw6022714270508041573:=0
def tw17899567509886876756:=0
def tw8150719060127022258:=0
def tw5400744400580123615:=0
def tw939521774299210186:=0
def tw4314298992535630933:=0
def tw9002194147296985092:=0
def tw6125486893315496058:=0
def tw5987274327079043443:=0
def tw9624744718553692033:=0
def tw2319817208612751208:=0
def tw736011744231469655:=0
def tw14300805508099570998:=0
def tw15019929969367362418:=0
def tw18050368158220890168:=0
def tw11375253709130256426:=0
def tw13529580777503969761:=0
def tw2341848539444232837:=0
def tw300217165021281522:=0
def tw1976769252921748446:=0
def tw6814021098583726282:=0
def tw10173002601576581278:=0
def tw12559737395711332182:=0
def tw2650971439317401270:=0
def tw15640278902110524534:=0
def tw13680675921559329087:=0
def tw13919804196450428586:=0
def tw493336231363460699:=0
def tw8519148462435917572:=0
def tw2878120151197994996:=0
def tw14580974580067807531:=0
def tw14900838888687539235:=0
def tw11202083323760456100:=0
def tw5320785543198316566:=0
def tw11839491965537328839:=0
def tw2633748961635638497:=0
def tw14812270920044298992:=0
def tw9766224604532528978:=0
def tw16749672127685096979:=0
def tw14282186289475247235:=0
def tw2127778012793224863:=0
def tw8268341425105570492:=0
def tw9281125309923445729:=0
def tw7398571268066125413:=0
def tw102006235536484377:=0
def tw2997632149778161982:=0
def tw292385508469743418:=0
def tw4166574270160122437:=0
def tw12053470058986725598:=0
def tw7153545715030899667:=0
def tw13990099000325613855:=0
def tw7844688678375516773:=0
def tw8916178690990953938:=0
def tw16942478462587850710:=0
def tw10199272764245229062:=0
def tw13255878298184148774:=0
def tw7894051081637865667:=0
def tw13513137458553269779:=0
def tw12583058711248511075:=0
def tw131318552826219844:=0
def tw8720852756156127853:=0
def tw16475307285992580155:=0
def tw14666542404371728136:=0
def tw308946511507794068:=0
def tw1793775700797861566:=0
def tw4229372955532235515:=0
def tw8613680558657540692:=0
def tw14474803718504793515:=0
def tw7058665303871789694:=0
def tw10962463698016839150:=0
def tw7935046901375306289:=0
def tw14336872065408767631:=0
def tw15912032027974393725:=0
def tw8688541749623142741:=0
def tw3294899695184705580:=0
def tw13898512319194242259:=0
def tw6797773194748563956:=0
def tw12144867955928044362:=0
def tw15535890886264729885:=0
def tw16161673243052423764:=0
def tw3955459016371869817:=0
def tw18110537578128580919:=0
def tw8714407034372289315:=0
def tw3581785800213432394:=0
def tw663752752104704606:=0
def tw10735924205665653647:=0
def tw1009031201125154199:=0
def tw7096097108667733019:=0
def tw14621914402614089563:=0
def tw6593288464615131819:=0
def tw7403324886273920773:=0
def tw17178163037924202768:=0
def tw564572001894949438:=0
def tw7494510518294649800:=0
def tw14924085927335049117:=0
def tw4819065379371712366:=0
def tw15832326784455519594:=0
def tw6855093178389648395:=0
def tw7256766574961210784:=0
def tw6805525157865976513:=0
def tw12751093985589328768:=0
def tw13789305745538743716:=0
def tw14497548594779392811:=0
def tw17682474516930860565:=0
def tw5965806074902846922:=0
def tw494234537375666953:=0
def tw16783866558690846012:=0
def tw12130484643725903047:=0
def tw6514444914802754327:=0
def tw5028541246431276458:=0
def tw3817337739574731717:=0
def tw17188274667133768721:=0
def tw3340670012027568633:=0
def tw16140938670119304111:=0
def tw6151427643704780607:=0
def tw2978803615678849772:=0
def tw8396266286514697834:=0
def tw11930074441569227493:=0
def tw4188736140248760014:=0
def tw2030789681380509144:=0
def tw12281540769891567406:=0
def tw4892002562486977187:=0
def tw7038168788953444490:=0
def tw13546089379837733629:=0
def tw14470239327366413031:=0
def tw482498648679497579:=0
def tw170992670189494228:=0
def tw7465283006573317863:=0
def tw15513478988488392897:=0
def tw4122756894991469397:=0
def tw16572589882604604296:=0
def tw10877987862854566107:=0
def tw10340984558456193740:=0
def tw10911690120465398885:=0
def tw17118051534802426587:=0
def tw6549114817830546395:=0
def tw14920587851117625665:=0
def tw6534071683133476762:=0
def tw8704228288181694467:=0
def tw742322100098709715:=0
def tw9834306339625928991:=0
def tw16094059390961328687:=0
def tw2173877176319028640:=0
def tw1139112096588388988:=0
def tw10075250556001390095:=0
def tw8346184899457524695:=0
def tw18218501674832169371:=0
def tw15352206242058403858:=0
def tw1092765607583745488:=0
def tw4186526212068761108:=0
def tw11757484077654558678:=0
def tw16184248366649615301:=0
def tw3348431065381337627:=0
def tw7615650408423330083:=0
def tw7502301847146792758:=0
def tw3438764792236432580:=0
def tw5106545907815153027:=0
def tw4604277124884058310:=0
def tw5602422308500815617:=0
def tw787778062475088391:=0
def tw9672590875069834:=0
def tw5727364390987652492:=0
def tw3724563951527361152:=0
def tw8625490320208380906:=0
def tw4870355938870005562:=0
def tw14878416101377078590:=0
def tw771863405423666584:=0
def tw16430182686006765342:=0
def tw15548094650253508313:=0
def tw94391603726083980:=0
def tw8696297971364564158:=0
def tw8545802913604379833:=0
def tw7160064388350449837:=0
def tw9951072147892561383:=0
def tw10329686175098493210:=0
def tw14305560495071574873:=0
def tw2567271065929714304:=0
def tw7007713627688051160:=0
def tw15058663390357494495:=0
def tw14608499442849471253:=0
def tw11412932111948106460:=0
def tw15196433038319282760:=0
def tw2038979706487924532:=0
def tw2399333289565095600:=0
def tw16857901164763494541:=0
def tw9094956417951143836:=0
def tw11452685790266020275:=0
def tw13642852138693447293:=0
def tw16920667243136699323:=0
def tw6255734316821995118:=0
def tw7046041137329014586:=0
def tw2649775232953249856:=0
def tw9078023739591389386:=0
def tw13302869138829321452:=0
def tw9102989907488701200:=0
def tw10148982339643748815:=0
def tw13485830665675122634:=0
def tw2187434808278478836:=0
def tw12181218930090575228:=0
def tw7533164076304991245:=0
def tw13896558351770755983:=0
def tw1700941415099116668:=0
def tw2252289082066380922:=0
def tw4162988062104701606:=0
def tw2774958412919215873:=0
def tw3867575993670903243:=0
def tw6268745092644493257:=0
def tw369522413946924523:=0
def tw3391706327236413209:=0
def tw12549260790713508495:=0
def tw6254620533455260077:=0
def tw3389152503679171007:=0
def tw5001102389879339367:=0
def tw8331479244236825726:=0
def tw3561337904690629331:=0
def tw14411214452346890859:=0
def tw6997894157709552626:=0
def tw5162540242190088914:=0
def tw17768964507535463252:=0
def tw10718043352865442179:=0
def tw2339047756323977834:=0
def tw7774432888061170711:=0
def tw2215961254790792326:=0
def tw749543818439278654:=0
def tw790806349829411083:=0
def tw2514121209674141429:=0
def tw1147013735357555565:=0
def tw10641683420436409229:=0
def tw13064948859593484721:=0
def tw7504609872275809289:=0
def tw398992450158966674:=0
def tw9036411024239480773:=0
def tw3796161357112823525:=0
def tw3266149449710661732:=0
def tw7637131893917051959:=0
def tw18203976246920265400:=0
def tw6544568435421166059:=0
def tw940504958247187859:=0
def tw2460745463474346949:=0
def tw780745158101966276:=0
def tw3039730805117276170:=0
def tw4025007168414139663:=0
def tw16923478714898599985:=0
def tw1663706199091467549:=0
def tw4242071527290227533:=0
def tw13540529693531216405:=0
def tw3980361851785668880:=0
def tw1179984125674029776:=0
def tw2929148323965716109:=0
def tw13580775921720638969:=0
def tw13568755146514874835:=0
def tw5722267833838825499:=0
def tw4969283798615473258:=0
def tw7059761031974865682:=0
def tw13351356784032939829:=0
def tw12059965550396558336:=0
def tw6419017485668107818:=0
def tw9460619541405709098:=0
def tw6471983692459168872:=0
def tw13435170382190920318:=0
def tw8160048253758234619:=0
def tw2222037169387311170:=0
def tw8890873547577763018:=0
def tw1536082430074040352:=0
def tw18337947488667277413:=0
def tw5382346207467266259:=0
def tw10756113087221014339:=0
def tw1252530016607713102:=0
def tw66412631560435507:=0
def tw9455187360772996482:=0
def tw7804782703962997873:=0
def tw5786798728506385036:=0
def tw16586862626832775047:=0
def tw6140323635407248174:=0
def tw16421185998518098911:=0
def tw8645733007268021622:=0
def tw16023835046275572548:=0
def tw12696871449786431053:=0
def tw17761239915688020491:=0
def tw12255313282046457321:=0
def tw17765729868697420847:=0
def tw9200712068776145808:=0
def tw2496486529909704897:=0
def tw13685986977655125038:=0
def tw13995644862495613386:=0
def tw16233274034197886433:=0
def tw8077804388142291869:=0
def tw4328904019632557536:=0
def tw12151692188960379053:=0
def tw12281400625363640789:=0
def tw7869547145831519612:=0
def tw1115859859482827288:=0
def tw15920980482595082752:=0
def tw2883616867112366813:=0
def tw7013367616932723211:=0
def tw13788778709961932296:=0
def tw9913624712381266528:=0
def tw4643348103512997289:=0
def tw16161418113070489330:=0
def tw11051834239781568320:=0
def tw8052172408891655557:=0
def tw11684635992509159607:=0
def tw159194845712006060:=0
def tw15441207857342069651:=0
def tw17958932532142169971:=0
def tw16223528930823393452:=0
def tw3213834847368208505:=0
def tw6792043271458851062:=0
def tw9490942468524192992:=0
def tw15562760353418505489:=0
def tw1863073177077779968:=0
def tw8728855614987132297:=0
def tw1129137096895063494:=0
def tw16850256288494133957:=0
def tw17384944444803297441:=0
def tw4443097479535321263:=0
def tw3633668535995899021:=0
def tw13976836291787286088:=0
def tw12989527624558079209:=0
def tw9376524721160338538:=0
def tw3853531956254848068:=0
def tw2623951509587954880:=0
def tw11682067865316470700:=0
def tw6634259004389707679:=0
def tw938021659795248592:=0
def tw368547525403912042:=0
def tw9501910945270840375:=0
def tw5219018936959162356:=0
def tw10209618413658624300:=0
def tw5063949289917635139:=0
def tw655357795963254751:=0
def tw5896208611098973417:=0
def tw8305743688325537605:=0
def tw4305733421142339894:=0
def tw16384203619655713856:=0
def tw9875390424551702275:=0
def tw5835568241372882947:=0
def tw18217366004009632347:=0
def tw14494686387953884915:=0
def tw16074022459621663596:=0
def tw3968869598010732880:=0
def tw4115133093915459837:=0
def tw11347314962729921168:=0
def tw16197226845557177216:=0
def tw8132098126384517680:=0
def tw936261044095894069:=0
def tw18159658444704588058:=0
def tw6712954771658983454:=0
def tw14026232244789159920:=0
def tw2614331461891349906:=0
def tw14291352149016137470:=0
def tw834410311662628818:=0
def tw6929734773813189722:=0
def tw4003746465021031563:=0
def tw11621788155927125846:=0
def tw3228090603166295681:=0
def tw14741570915034671815:=0
def tw2725407070689277546:=0
def tw7271475803319116467:=0
def tw11437243414134182973:=0
def tw15349519316078900056:=0
def tw9510560755605604697:=0
def tw15237237533878169249:=0
def tw17265923126997369846:=0
def tw14928564511098383254:=0
def tw15051722444192734202:=0
def tw5143558020526072956:=0
def tw7109119893128510907:=0
def tw470711040572139924:=0
def tw4939843802907286966:=0
def tw7301534677522468835:=0
def tw17498331988818123803:=0
def tw7595062897902626637:=0
def tw14841932455083413466:=0
def tw11375012389524118177:=0
def tw11950742544067027526:=0
def tw3887908370385015577:=0
def tw11705185634135010401:=0
def tw5771771925250679946:=0
def tw17073946243851036917:=0
def tw7063414377533337106:=0
def tw4863690242012010545:=0
def tw15247140476327992244:=0
def tw10800163960877463314:=0
def tw15285327395137039261:=0
def tw14102307277239481597:=0
def tw2894789577696348893:=0
def tw1798484525346204642:=0
def tw10579032351401209115:=0
def tw9050705226716506121:=0
def tw8502157938194592706:=0
def tw4834661298075625780:=0
def tw6815490562737768753:=0
def tw3947012591989929733:=0
def tw5628046544557006327:=0
def tw5169398745477709678:=0
def tw3210754955259166176:=0
def tw1009484481260179837:=0
def tw593587872797000642:=0
def tw14310104022434434443:=0
def tw6290505499619935415:=0
def tw8906103514180985471:=0
def tw10465421382391370026:=0
def tw2933891593244521700:=0
def tw7705224721803899102:=0
def tw4757048248490932212:=0
def tw15376751998952082930:=0
def tw1433283365815820325:=0
def tw8305151634872343409:=0
def tw17782664105310066674:=0
def tw11693991448715999412:=0
def tw243652281207013884:=0
def tw18371518999641064258:=0
def tw3352080089618923742:=0
def tw18184143715679719171:=0
def tw8059033677863605217:=0
def tw12153660765330835781:=0
def tw15558083700009500547:=0
def tw14958027603490724472:=0
def tw17923229303518819385:=0
def tw8162263058647354178:=0
def tw4453201956544842936:=0
def tw15589771557535653608:=0
def tw636460242806517197:=0
def tw9743033539812708001:=0
def tw13594426109002405827:=0
def tw9173955645398239053:=0
def tw14355806272645462426:=0
def tw16598659248643626616:=0
def tw5840701280650561454:=0
def tw2717866566915599675:=0
def tw1295994012387309157:=0
def tw15590105585801951798:=0
def tw116005167945973636:=0
def tw7804386682114268103:=0
def tw18342608826493512706:=0
def tw11151427009164709735:=0
def tw17302842331994883768:=0
def tw1041287841241266122:=0
def tw10712973081005118153:=0
def tw8620967551457442570:=0
def tw17306982892198487251:=0
def tw11730243183906065033:=0
def tw16153523073679209016:=0
def tw4594483134314170763:=0
def tw1828448855187448296:=0
def tw13876325450414444077:=0
def tw14328135028459858937:=0
def tw10942037730552350705:=0
def tw8551991787726715337:=0
def tw12054044937630682849:=0
def tw5973825815250274873:=0
def tw6018076122526256163:=0
def tw9014895997466856287:=0
def tw6695480474053930222:=0
def tw7492780334776532581:=0
def tw2440034644914734351:=0
def tw1995369861472080549:=0
def tw16611562870220314673:=0
def tw6134169912248668883:=0
def tw8325835888192059052:=0
end PySem.W.Fast
open PySem PySem.W PyProof.Rows in
set_option maxRecDepth 100000 in
set_option maxHeartbeats 0 in
open_top hd94 for PySem.Challenge.rw_squaresheet_k94_desk_rows
open PySem.W renaming Frag->Y00,nsIn->Y0n,findIn->Y0v,mg_of->Y11,mg_none_of->Y12,fnOf->Y17,keepIn->Y18,emptyDict->Y1a,instObj->Y1l,kia_one->Y1s,kitOne->Y23,codeIn->Y24,subIn->Y2o,makesIn->Y2u,plainGet->Y35,hideAll_get->Y36,Looks->Y38,callWith_K->Y39,hasDictIn->Y3e,specialIn->Y3f,typeIn->Y3i,isFn->Y3k,methodCall_KW->Y3l,clsIn->Y3q,hideAll->Y3r,plainGet_of->Y3s,takesIn->Y3t,callWith_K0->Y3u,of_hideAll->Y3z,lookIn->Y42,methodObj->Y45,plainOver->Y46,mroIn->Y48
open List renaming getElem?_eq_getElem->Y01,range->Y03,length_map->Y05,getElem?_eq_some_iff->Y07,mem_range->Y08,length_append->Y09,mem_append_right->Y0b,mem_singleton->Y0c,mem_map->Y0d,size_toArray->Y0e,length_cons->Y0f,getD_eq_getElem?_getD->Y0h,mem_cons->Y0k,getElem?_map->Y0l,length_range->Y0m,mem_of_getElem?->Y0o,replicate->Y0p,mem_cons_of_mem->Y0r,mem_filter->Y0s,map_append->Y0t,length_filter_le->Y0u,map_cons->Y0w,getElem?_append_left->Y0z,filter_append->Y10,filter_cons_of_pos->Y13,getElem_mem->Y15,mem_append->Y1d,filter_cons_of_neg->Y1e,mem_iff_getElem->Y1g,append_nil->Y1h,range_succ->Y1i,idxOf_lt_length_of_mem->Y1j,length->Y1k,length_take->Y1m,lookup_cons->Y1n,length_eq_zero_iff->Y1p,getElem?_append_right->Y1q,mem_cons_self->Y1r,flatten_cons->Y1u,take_add_one->Y1v,mem_append_left->Y1x,nodup_range->Y1y,mem_flatten->Y1z,replicate_succ->Y20,getElem?_range->Y21,flatten_append->Y22,pairwise_iff_getElem->Y25,drop_eq_getElem_cons->Y26,length_nil->Y28,getElem?_eq_none->Y29,take_length->Y2a,map_map->Y2b,append_assoc->Y2c,all_eq_true->Y2d,take_append_drop->Y2g,lookup->Y2h,nodup_cons->Y2k,pairwise_map->Y2l,nodup_append->Y2m,any_eq_true->Y2q,getElem?_set_self->Y2r,pairwise_lt_range->Y2s,dropLast_concat_getLast->Y2t,length_replicate->Y2v,find?_cons->Y2x,forIn_cons->Y2z,ext_getElem?->Y31,perm_ext_iff_of_nodup->Y32,getElem?_set_ne->Y33,filterMap_cons->Y37,getElem?_replicate->Y3a,getD->Y3b,pairwise_cons->Y3c,eraseIdxIfInBounds_toArray->Y3g,map_nil->Y3m,not_mem_nil->Y3o,any_cons->Y3p,map_congr_left->Y3w,filter_nil->Y3x,mem_filterMap->Y40,getElem_idxOf->Y41,forIn_nil->Y43,mem_of_find?_eq_some->Y44,flatMap_cons->Y47,eraseIdx_cons_succ->Y49,map_id->Y4a,getElem?_cons_succ->Y4b
open PySem.Heap renaming get?_push_of_some->Y02,get?_push_size->Y06,lt_size->Y0a,size_push->Y19,get?_update_other->Y1f,get?_update_self->Y27,SameBut->Y3j
open Nat renaming le_refl->Y04,lt_of_lt_of_le->Y0i,ne_of_lt->Y0j,lt_or_ge->Y0x,zero_le->Y0y,le_of_lt->Y14,lt_succ_of_lt->Y1b,le_trans->Y1c,lt_irrefl->Y1o,lt_succ_self->Y1t,not_lt_zero->Y1w,ne_of_gt->Y2e,lt_of_le_of_lt->Y2f,le_succ->Y2i,lt_trans->Y2y,lt_trichotomy->Y3h,succ_ne_self->Y3n,add_le_add_left->Y3v
open Bool renaming false_ne_true->Y0g,eq_iff_iff->Y2j,and_eq_true->Y2p
open Int renaming toNat_natCast->Y0q,emod_nonneg->Y30,emod_lt_of_pos->Y3d,eq_ofNat_of_zero_le->Y4c
open Array renaming getD_eq_getD_getElem?->Y16,length_toList->Y2n,getElem?_toList->Y2w,getElem?_eq_getElem->Y34,getElem?_eq_some_iff->Y3y
set_option Elab.async false
set_option linter.all false
set_option maxRecDepth 100000
namespace L2
open PySem PySem.Spec PyProof.Rows
noncomputable abbrev Key:=Sum Int Str
noncomputable def Wg:Key->Value->Bool
 | .inl k,v=>Value.isInt k v
 | .inr x,v=>Value.isStrOf x v
noncomputable def keyH (w:World):Key->Int
 | .inl k=>hashInt k
 | .inr x=>hashStr w x
theorem XG:∀ {k:Key} {v:Value},Wg k v=true->(∃ i t,k=Sum.inl i/\v=Value.int i t)\/(∃ x t,k=Sum.inr x/\v=Value.str x t)
 | .inl i,v,h=>by
  obtain⟨t,e⟩:=Value.isInt_shape (k:=i) (v:=v) h;exact .inl ⟨i,t,rfl,e⟩
 | .inr x,v,h=>by
  obtain⟨t,e⟩:=Value.isStrOf_shape (x:=x) (v:=v) h;exact .inr ⟨x,t,rfl,e⟩
theorem Zck (i:Int)(t:Tok):Wg (.inl i) (.int i t)=true:=by simp[Wg,Value.isInt]
theorem Z53 (x:Str)(t:Tok):Wg (.inr x) (.str x t)=true:=by simp[Wg,Value.isStrOf]
theorem Zhq (a b:Int):decide ((Sum.inl a:Key)=Sum.inl b)=(a==b):=by
 by_cases e:a=b
 ·subst e;simp
 ·have h:¬ (Sum.inl a:Key)=Sum.inl b:=fun q=>e (Sum.inl.inj q);rw[decide_eq_false h];exact (beq_eq_false_iff_ne.mpr e).symm
theorem Zg5 (a b:Str):decide ((Sum.inr a:Key)=Sum.inr b)=decide (a=b):=by
 by_cases e:a=b
 ·subst e;simp
 ·have h:¬ (Sum.inr a:Key)=Sum.inr b:=fun q=>e (Sum.inr.inj q);rw[decide_eq_false h,decide_eq_false e]
theorem Zh6 (a:Int)(b:Str):decide ((Sum.inl a:Key)=Sum.inr b)=false:=decide_eq_false (fun q=>nomatch q)
theorem Zhh (a:Str)(b:Int):decide ((Sum.inr a:Key)=Sum.inl b)=false:=decide_eq_false (fun q=>nomatch q)
noncomputable def Y9 (prog:Program)(w:World):PySem.KeyKind prog w Key where
 is:=Wg
 hash:=keyH w
 inj:=fun v a b ha hb=>by
  rcases XG ha with ⟨i,t,rfl,rfl⟩|⟨x,t,rfl,rfl⟩
  ·rcases XG hb with ⟨j,u,rfl,e⟩|⟨y,u,rfl,e⟩
   ·injection e with e1 _;rw[e1]
   ·exact nomatch e
  ·rcases XG hb with ⟨j,u,rfl,e⟩|⟨y,u,rfl,e⟩
   ·exact nomatch e
   ·injection e with e1 _;rw[e1]
 byValue:=fun k v h=>by
  rcases XG h with ⟨i,t,rfl,rfl⟩|⟨x,t,rfl,rfl⟩<;>rfl
 pyHash:=fun hv h=>by
  rcases XG hv with ⟨i,t,rfl,rfl⟩|⟨x,t,rfl,rfl⟩
  ·exact wpAny_pyHash_int h
  ·exact wpAny_pyHash_str h
 eqBool:=fun hu hv h=>by
  rcases XG hu with ⟨i,t,rfl,rfl⟩|⟨x,t,rfl,rfl⟩
  ·rcases XG hv with ⟨j,u,rfl,rfl⟩|⟨y,u,rfl,rfl⟩
   ·rw[Zhq]at h;exact wpAny_eqBool_int h
   ·rw[Zh6]at h;exact SeqAt.EqAt.int_str i t y u _ _ _ _ h
  ·rcases XG hv with ⟨j,u,rfl,rfl⟩|⟨y,u,rfl,rfl⟩
   ·rw[Zhh]at h;exact SeqAt.EqAt.str_int x t j u _ _ _ _ h
   ·rw[Zg5]at h;exact wpAny_eqBool_str h
 «strs»:=fun k x t v h=>by
  rcases XG h with ⟨i,u,rfl,e⟩|⟨y,u,rfl,e⟩
  ·exact nomatch e
  ·injection e with e1 _
   subst e1;cases v<;>rfl
theorem Z5l (prog:Program)(w:World)(i:Int)(t:Tok):(Y9 prog w).is (.inl i) (.int i t)=true:=Zck i t
theorem Z5c (prog:Program)(w:World)(x:Str)(t:Tok):(Y9 prog w).is (.inr x) (.str x t)=true:=Z53 x t
inductive V where
 | non|bl (b:Bool)|int (i:Int)|str (x:Str)|byt (b:Array UInt8)|flt (b:UInt64)|ref (a:Addr)|ty (n:String)
 deriving DecidableEq
def ZI:V->Value->Prop
 | .non,u=>u=Value.none
 | .bl b,u=>u=Value.bool b
 | .int i,u=>∃ t,u=Value.int i t
 | .str x,u=>∃ t,u=Value.str x t
 | .byt b,u=>∃ t,u=Value.bytes b t
 | .flt b,u=>∃ t,u=Value.float b t
 | .ref a,u=>u=Value.ref a
 | .ty n,u=>u=Value.type n
abbrev ZT:List V->List Value->Prop:=Paired ZI
theorem ZT.length {xs:List V}{us:List Value}(r:ZT xs us):xs.length=us.length:=Paired.length r
theorem ZT.get:∀ {xs:List V} {us:List Value} {i:Nat} {x:V},ZT xs us->xs[i]?=some x->∃ u,us[i]?=some u/\ZI x u
 | _,_,_,_,.nil,e=>by simp at e
 | _,_,0,_,.cons r _,e=>by simp at e;subst e;exact⟨_,rfl,r⟩
 | _,_,i+1,x,.cons _ t,e=>by
  obtain⟨u,h1,h2⟩:=ZT.get (i:=i) (x:=x) t (by simpa using e);exact⟨u,by simpa using h1,h2⟩
theorem ZT.set {x:V}{u:Value}(r:ZI x u):∀ {xs:List V} {us:List Value} (i:Nat),ZT xs us->ZT (xs.set i x) (us.set i u)
 | _,_,_,.nil=>.nil
 | _,_,0,.cons _ t=>.cons r t
 | _,_,i+1,.cons q t=>.cons q (ZT.set r i t)
theorem ZT.append:∀ {xs ys:List V} {us ws:List Value},ZT xs us->ZT ys ws->ZT (xs++ys) (us++ws)
 | _,_,_,_,.nil,s=>s
 | _,_,_,_,.cons r t,s=>.cons r (ZT.append t s)
theorem ZT.take:∀ {xs:List V} {us:List Value} (n:Nat),ZT xs us->ZT (xs.take n) (us.take n)
 | _,_,0,_=>.nil
 | _,_,_+1,.nil=>.nil
 | _,_,n+1,.cons r t=>.cons r (ZT.take n t)
theorem ZT.drop:∀ {xs:List V} {us:List Value} (n:Nat),ZT xs us->ZT (xs.drop n) (us.drop n)
 | _,_,0,r=>r
 | _,_,_+1,.nil=>.nil
 | _,_,n+1,.cons _ t=>ZT.drop n t
def Yw:Option V->Option Value->Prop
 | some v,some u=>ZI v u
 | none,none=>True
 | _,_=>False
def KV {κ:Type}:List (κ×V)->List (κ×Value)->Prop:=Paired fun (p:κ×V) (q:κ×Value)=>p.1=q.1/\ZI p.2 q.2
noncomputable def kV:Key->V
 | .inl i=>.int i
 | .inr x=>.str x
inductive HO where
 | lst (xs:List V)
 | tup (xs:List V)
 | dK (kvs:List (Key×V))|dT (kvs:List (List Key×V))
 | set (S:Int->Bool) (n:Nat)
 | ins (C dx:Addr) (fs:List (Str×V))
 | own (x:Addr)
 | xd (fs:List (Str×V))
 | met (f x:Addr)
 | rng (lo hi:Int)
 | frz (o:Obj) (u:HO)
 | tbl (ps:Array Value)
 | ext (φ:Heap->Prop)
noncomputable abbrev Hp:=Addr->Option HO
noncomputable def upd (H:Hp)(a:Addr)(o:HO):Hp:=fun b=>if b=a then some o else H b
theorem Z2 {H:Hp}{a:Addr}{o:HO}:upd H a o a=some o:=by unfold upd;rw[if_pos rfl]
theorem ZZ {H:Hp}{a b:Addr}{o:HO}(h:b≠a):upd H a o b=H b:=by unfold upd;rw[if_neg h]
theorem T7 {H:Hp}{a b:Addr}{o u:HO}(h:H a=some o)(h':H b=some u)(d:o≠u):a≠b:=by
 intro e;subst e;rw[h]at h';exact d (Option.some.inj h')
theorem Zv {H:Hp}{a b:Addr}{o:HO}(h:H a=some o)(h':H b=none):a≠b:=by
 intro e;subst e;rw[h]at h';cases h'
section
variable (P:Program)(w:World)
def NoD (h:Heap)(a:Addr):Prop:=∃ o,h.get? a=some o/\o.dict=none
def Zi (H:Hp)(h:Heap)(a:Addr):HO->Prop
 | .lst xs=>xs.length<=sizeLine/\∃ (its:List Value) (n:Nat),ZT xs its/\h.get? a=some { cls:=.type "list",data:=.seq its.toArray n }
 | .tup xs=>(xs.length<=sizeLine/\NoD h a)/\∃ its:List Value,ZT xs its/\IsTup h a its.toArray
 | .dK kvs=>kvs.length<=sizeLine/\(a==sysModules)=false/\∃ vs,KV kvs vs/\h.DictOf (Y9 P w) a vs
 | .dT kvs=>kvs.length<=sizeLine/\(a==sysModules)=false/\∃ xs:List (List Key×Addr×Value),
   Paired (fun (p:List Key×V) (q:List Key×Addr×Value)=>p.1=q.1/\H q.2.1=some (.tup (p.1.map kV))/\ZI p.2 q.2.2) kvs xs/\
   ∃ o es ep,h.get? a=some o/\o.ExactDict/\o.data=.dict es ep/\es.toList=xs.map (entryOfKey (tupleKind (Y9 P w)))/\(xs.map (·.1)).Nodup
 | .set S n=>h.SetOf (intKind P w) a S n
 | .ins C dx fs=>H dx=some (.own a)/\fs.length<=1000/\dx≠a/\h.get? a=some (Y1l C dx)/\
   ∃ mA,h.Ns1 dx mA/\(∀ f,Yw (fs.lookup f) (mA f))/\PySem.Within mA (fs.map (·.1))
 | .own _=>∃ o,h.get? a=some o
 | .xd fs=>∃ mA,h.Ns1 a mA/\∀ f,Yw (fs.lookup f) (mA f)
 | .rng lo hi=>∃ t u v,h.get? a=some { cls:=.type "range",data:=.fields #[.int lo t,.int hi u,.int 1 v] }
 | .frz o u=>h.get? a=some o/\Zi H h a u
 | .tbl ps=>h.get? a=some { cls:=.none,data:=.fields ps }
 | .met f x=>h.get? a=some (Y45 (.ref f) (.ref x))
 | .ext φ=>φ h/\(∃ o,h.get? a=some o)/\∀ h1 h2:Heap,φ h1->(∀ o,h1.get? a=some o->h2.get? a=some o)->φ h2
def HOk (H:Hp)(h:Heap):Prop:=∀ a o,H a=some o->Zi P w H h a o
end
section
variable {P:Program}{w:World}{H H':Hp}{h h':Heap}{a:Addr}{o:HO}
theorem Zi.lt (x:Zi P w H h a o):a<h.objs.size:=by
 cases o with
 | lst xs=>obtain⟨_,_,_,_,e⟩:=x;exact Y0a e
 | tup xs=>obtain⟨_,_,_,p⟩:=x;exact p.lt
 | dK kvs=>obtain⟨_,_,_,_,o,_,_,e,_⟩:=x;exact Y0a e
 | dT kvs=>obtain⟨_,_,_,_,o,_,_,e,_⟩:=x;exact Y0a e
 | set S n=>obtain⟨o,_,_,_,e,_⟩:=x;exact Y0a e
 | ins C dx fs=>obtain⟨_,_,_,e,_⟩:=x;exact Y0a e
 | own y=>obtain⟨_,e⟩:=x;exact Y0a e
 | xd fs=>obtain⟨_,⟨_,_,_,e,_⟩,_⟩:=x;exact Y0a e
 | rng lo hi=>obtain⟨_,_,_,e⟩:=x;exact Y0a e
 | frz ob u=>obtain⟨e,_⟩:=x;exact Y0a e
 | tbl ps=>exact Y0a (show h.get? a=some _ from x)
 | met f y=>exact Y0a (show h.get? a=some _ from x)
 | ext φ=>obtain⟨_,⟨_,e⟩,_⟩:=x;exact Y0a e
theorem Paired.mapP {α β:Type}{F G:α->β->Prop}:∀ {l₁:List α} {l₂:List β},Paired F l₁ l₂->(∀ a b,F a b->G a b)->Paired G l₁ l₂
 | _,_,.nil,_=>.nil
 | _,_,.cons r t,f=>.cons (f _ _ r) (Paired.mapP t f)
theorem Zi.stay (x:Zi P w H h a o)(k:∀ b u,(b=a\/H b=some (.own a))->h.get? b=some u->h'.get? b=some u)
  (ho:∀ b,H b=some (.own a)->H' b=some (.own a)) (ht:∀ b xs,H b=some (.tup xs)->H' b=some (.tup xs)):Zi P w H' h' a o:=by
 induction o with
 | lst xs=>obtain⟨z,its,n,r,e⟩:=x;exact⟨z,its,n,r,k _ _ (.inl rfl) e⟩
 | tup xs=>obtain⟨z,its,r,ob,e,c⟩:=x;exact⟨⟨z.1,z.2.imp fun _ q=>⟨k _ _ (.inl rfl) q.1,q.2⟩⟩,its,r,ob,k _ _ (.inl rfl) e,c⟩
 | dK kvs=>obtain⟨z,y,vs,r,ob,es,ep,e,c⟩:=x;exact⟨z,y,vs,r,ob,es,ep,k _ _ (.inl rfl) e,c⟩
 | dT kvs=>
  obtain⟨z,y,xs,r,ob,es,ep,e,c⟩:=x;exact⟨z,y,xs,Paired.mapP r fun p q z=>⟨z.1,ht _ _ z.2.1,z.2.2⟩,ob,es,ep,k _ _ (.inl rfl) e,c⟩
 | set S n=>obtain⟨ob,es,ep,t,e,c⟩:=x;exact⟨ob,es,ep,t,k _ _ (.inl rfl) e,c⟩
 | ins C dx fs=>
  obtain⟨d,z,ne,e,mA,⟨od,es,ep,e2,c⟩,r⟩:=x;exact⟨ho _ d,z,ne,k _ _ (.inl rfl) e,mA,⟨od,es,ep,k _ _ (.inr d) e2,c⟩,r⟩
 | own y=>obtain⟨ob,e⟩:=x;exact⟨ob,k _ _ (.inl rfl) e⟩
 | xd fs=>obtain⟨mA,⟨od,es,ep,e,c⟩,r⟩:=x;exact⟨mA,⟨od,es,ep,k _ _ (.inl rfl) e,c⟩,r⟩
 | rng lo hi=>obtain⟨t,u,v,e⟩:=x;exact⟨t,u,v,k _ _ (.inl rfl) e⟩
 | frz ob u ih=>obtain⟨e,q⟩:=x;exact⟨k _ _ (.inl rfl) e,ih q⟩
 | tbl ps=>
  have e:h.get? a=some { cls:=.none,data:=.fields ps }:=x;show h'.get? a=some { cls:=.none,data:=.fields ps };exact k a _ (.inl rfl) e
 | met f y=>
  have e:h.get? a=some (Y45 (.ref f) (.ref y)):=x;show h'.get? a=some (Y45 (.ref f) (.ref y));exact k a _ (.inl rfl) e
 | ext φ=>obtain⟨p,⟨o,e⟩,st⟩:=x;exact⟨st _ _ p fun o q=>k _ _ (.inl rfl) q,⟨o,k _ _ (.inl rfl) e⟩,st⟩
theorem HOk.lt (x:HOk P w H h)(e:H a=some o):a<h.objs.size:=(x a o e).lt
theorem HOk.fresh (x:HOk P w H h)(e:h.objs.size<=a):H a=none:=by
 cases q:H a with
 | none=>rfl
 | some u=>exact absurd (Y0i (x.lt q) e) (Y1o _)
theorem HOk.kept (x:HOk P w H h)(k:∀ b u,h.get? b=some u->h'.get? b=some u):HOk P w H h':=fun a o e=>
 (x a o e).stay (fun b u _ q=>k b u q) (fun _ q=>q) fun _ _ q=>q
theorem HOk.laid (x:HOk P w H h)(k:∀ b u,h.get? b=some u->h'.get? b=some u)(hp:h.objs.size<=a)(new:Zi P w (upd H a o) h' a o):HOk P w (upd H a o) h':=fun b u e=>by
 have hn:=x.fresh hp
 by_cases hb:b=a
 ·subst hb;rw[Z2]at e;cases e;exact new
 ·rw[ZZ hb]at e;exact (x b u e).stay (fun c v _ q=>k c v q) (fun c q=>by rw[ZZ (Zv q hn)];exact q) fun c xs q=>by rw[ZZ (Zv q hn)];exact q
end
def Rd (H:Hp)(a:Addr)(u:HO):Prop:=H a=some u\/∃ o,H a=some (.frz o u)
theorem Rd.ok {P:Program}{w:World}{H:Hp}{h:Heap}{a:Addr}{u:HO}(r:Rd H a u)(x:HOk P w H h):Zi P w H h a u:=by
 rcases r with r|⟨o,r⟩
 ·exact x a u r
 ·obtain⟨_,q⟩:=x a _ r;exact q
def Mut:Option HO->Prop
 | some (.lst _)=>True
 | some (.dK _)=>True
 | some (.dT _)=>True
 | some (.set _ _)=>True
 | some (.ins _ _ _)=>True
 | some (.ext _)=>True
 | _=>False
section
variable {P:Program}{w:World}{H:Hp}{h h':Heap}{x e:Addr}{o':HO}
theorem HOk.write (ok:HOk P w H h)(mu:Mut (H x))(he:e=x\/H e=some (.own x))(k:∀ b u,b≠e->h.get? b=some u->h'.get? b=some u)(heo:∃ u,h'.get? e=some u)
  (new:Zi P w (upd H x o') h' x o'):HOk P w (upd H x o') h':=fun b u q=>by
 have nown:∀ c y,H c=some (.own y)->c≠x:=fun c y r z=>by subst z;rw[r]at mu;exact mu
 have ntup:∀ c xs,H c=some (.tup xs)->c≠x:=fun c xs r z=>by subst z;rw[r]at mu;exact mu
 by_cases hb:b=x
 ·subst hb;rw[Z2]at q;cases q;exact new
 ·rw[ZZ hb]at q
  by_cases hbe:b=e
  ·have q':H b=some (.own x):=by
    rcases he with z|z
    ·exact absurd (hbe.trans z) hb
    ·rw[hbe];exact z
   rw[q]at q';cases q';obtain⟨v,hv⟩:=heo;exact⟨v,by rw[hbe];exact hv⟩
  ·refine (ok b u q).stay (fun c v hc r=>k c v ?_ r) (fun c r=>by rw[ZZ (nown c b r)];exact r) fun c xs r=>by rw[ZZ (ntup c xs r)];exact r
   rcases hc with rfl|hc
   ·exact hbe
   ·rintro rfl;rcases he with z|z
    ·exact nown c b hc z
    ·rw[hc]at z;cases z;exact hb rfl
end
structure Un (fs ex:List Addr)(H H':Hp)(h h':Heap):Prop where
 keep:∀ b o,h.get? b=some o->H b=none->b∉fs->b∉ex->h'.get? b=some o
 slot:∀ b o,h.get? b=some o->H b=none->b∈fs->b∉ex->∃ sl,h'.get? b=some { o with slots:=sl }
 free:∀ b o,h.get? b=some o->H b=none->b∉ex->H' b=none
 there:∀ b o,h.get? b=some o->b∉ex->∃ o',h'.get? b=some o'
 tups:∀ b xs,H b=some (.tup xs)->H' b=some (.tup xs)
 frzs:∀ b o u,H b=some (.frz o u)->H' b=some (.frz o u)
 tbls:∀ b ps,H b=some (.tbl ps)->∃ more,H' b=some (.tbl (ps++more))
section
variable {fs fs' ex ex':List Addr}{H H1 H2:Hp}{h h1 h2 h':Heap}{a x e:Addr}{o:HO}
theorem Un.any (u:Un fs ex H H1 h h1){b:Addr}{ob:Obj}(q:h.get? b=some ob)(n:H b=none)(hx:b∉ex):∃ sl,h1.get? b=some { ob with slots:=sl }:=by
 by_cases hb:b∈fs
 ·exact u.slot b ob q n hb hx
 ·exact⟨ob.slots,u.keep b ob q n hb hx⟩
theorem Un.kept (k:∀ b u,h.get? b=some u->h'.get? b=some u):Un fs ex H H h h':=
 ⟨fun b ob q _ _ _=>k b ob q,fun b ob q _ _ _=>⟨ob.slots,k b ob q⟩,fun _ _ _ n _=>n,fun b ob q _=>⟨ob,k b ob q⟩,fun _ _ q=>q,fun _ _ _ q=>q,fun _ ps q=>⟨#[],by rw[q];simp⟩⟩
theorem Un.refl:Un fs ex H H h h:=Un.kept fun _ _ q=>q
theorem Un.laid (k:∀ b u,h.get? b=some u->h'.get? b=some u)(hp:h.objs.size<=a)(hn:H a=none):Un fs ex H (upd H a o) h h' where
 keep:=fun b u q _ _ _=>k b u q
 slot:=fun b u q _ _ _=>⟨u.slots,k b u q⟩
 free:=fun b u q n _=>by rw[ZZ (Y0j (Y0i (Y0a q) hp))];exact n
 there:=fun b u q _=>⟨u,k b u q⟩
 tups:=fun b xs q=>by rw[ZZ (Zv q hn)];exact q
 frzs:=fun b u xs q=>by rw[ZZ (Zv q hn)];exact q
 tbls:=fun b ps q=>⟨#[],by rw[ZZ (Zv q hn),q];simp⟩
theorem Un.write (mu:Mut (H x))(he:e=x\/H e=some (.own x))(k:∀ b u,b≠e->h.get? b=some u->h'.get? b=some u)(heo:∃ u,h'.get? e=some u):Un fs ex H (upd H x o) h h':=by
 have hx:∀ b,H b=none->b≠x:=fun b n z=>by subst z;rw[n]at mu;exact mu
 have hb:∀ b,H b=none->b≠e:=fun b n z=>by
  subst z;rcases he with r|r
  ·exact hx b n r
  ·rw[n]at r;cases r
 have hm:∀ b u,H b=some u->¬ Mut (some u)->b≠x:=fun b u q nm z=>by subst z;rw[q]at mu;exact nm mu
 refine⟨fun b u q n _ _=>k b u (hb b n) q,fun b u q n _ _=>⟨u.slots,k b u (hb b n) q⟩,fun b u q n _=>by rw[ZZ (hx b n)];exact n,fun b u q _=>?_,
  fun b xs q=>by rw[ZZ (hm b _ q fun z=>z)];exact q,fun b u xs q=>by rw[ZZ (hm b _ q fun z=>z)];exact q,fun b ps q=>⟨#[],by rw[ZZ (hm b _ q fun z=>z),q];simp⟩⟩
 by_cases hbe:b=e
 ·subst hbe;exact heo
 ·exact⟨u,k b u hbe q⟩
end
noncomputable def trk (h:Heap)(H:Hp):List Addr:=(Y03 h.objs.size).filter fun a=>(H a).isSome
noncomputable def Xe (h:Heap)(H:Hp):Heap:=Y3r h (trk h H)
theorem ZbK (h:Heap)(H:Hp):(Xe h H).objs.size=h.objs.size:=PySem.W.hideAll_size _ _
theorem ZdD {h:Heap}{H:Hp}{b:Addr}{o:Obj}(e:h.get? b=some o)(n:H b=none):(Xe h H).get? b=some o:=
 Y36 _ e fun hm=>by
  have q:(H b).isSome=true:=(Y0s.mp hm).2;rw[n]at q;simp at q
theorem Zf7 {h:Heap}{H:Hp}{b:Addr}{o:Obj}(e:(Xe h H).get? b=some o):h.get? b=some o/\H b=none:=by
 have e':h.get? b=some o:=Y3z (trk h H) e;refine⟨e',?_⟩;cases q:H b with
 | none=>rfl
 | some x=>
  have hm:b∈trk h H:=Y0s.mpr ⟨Y08.mpr (Y0a e'),by simp[q]⟩;have z:(Xe h H).get? b=none:=PySem.W.hideAll_none (trk h H) hm;rw[z]at e;cases e
structure Mod (K:Y00)(mg:Str->Option Value)(base:Heap):Prop where
 kin:K.In base
 glob:base.Ns mainGlobals mg
 blt:∃ mb,base.Ns builtinsNs mb/\∀ x:Str,x≠"__name__"->mb x=bootBuiltins x
 nolimit:base.NoLimit
structure Cx where
 prog:Program
 w:World
 K:Y00
 mg:Str->Option Value
 base:Heap
 A:Around
 N:List Str
 s₀:Shared
 H₀:Hp
 env:Env
 outer:List Env
 stack:List Env
 ex:List Addr
 fn:Str->Bool
 calm:Bool
 pn:List (Addr×Obj)
 xe:Value->Shared->Prop
noncomputable def frs (l:List Env):List Addr:=l.filterMap (·.frame)
noncomputable abbrev Cx.fs (X:Cx):List Addr:=frs X.outer
def Vis (sc:Scope)(x:Str):Prop:=sc.names.lookup x=some .local\/sc.names.lookup x=some .cell\/sc.names.lookup x=some .free
def Loc (sc:Scope)(x:Str):Prop:=sc.names.lookup x=some .local\/sc.names.lookup x=some .cell
def Look (env:Env)(h:Heap)(m:Str->Option Value)(x:Str)(u:Value):Prop:=
 (env.kindOf x=some .local/\m x=some u)\/((env.kindOf x=some .cell\/env.kindOf x=some .free)/\∃ c,env.cells.lookup x=some c/\h.IsCell c (some u))
structure Cx.Ok (X:Cx):Prop where
 mod:Mod X.K X.mg X.base
 kind:X.env.scope.kind=.function
 glob:X.env.globals=mainGlobals
 blt:X.env.builtins=builtinsNs
 above:X.s₀.heap.objs.size<=X.env.locals
 inj:∀ x y c,X.env.cells.lookup x=some c->X.env.cells.lookup y=some c->x=y
 has:∀ x,(X.env.kindOf x=some .cell\/X.env.kindOf x=some .free)->∃ c,X.env.cells.lookup x=some c
 cab:∀ x c,X.fn x=true->X.env.cells.lookup x=some c->X.s₀.heap.objs.size<=c
 hd:X.calm=true->X.A.handled=none
 frames:X.A.frames=some X.stack
 stk:X.stack=X.outer\/(X.stack=X.env::X.outer/\X.env.frame=some X.env.locals)
 exf:∀ b∈X.ex,b≠X.env.locals/\∀ x c,X.env.cells.lookup x=some c->c≠b
 bs:∀ b o,X.base.get? b=some o->X.s₀.heap.get? b=some o/\X.H₀ b=none
 bsz:X.base.objs.size<=X.s₀.heap.objs.size
 noex:∀ b o,X.base.get? b=some o->b∉X.ex
 exfs:∀ b∈X.ex,b∉X.fs
 funs:X.s₀.heap.FunFrames X.base X.outer
 frf:∀ b∈X.fs,X.H₀ b=none
structure Inv (X:Cx)(pins:List (Addr×Obj))(σ:List (Option V))(H:Hp)(s:Shared):Prop where
 ok:X.Ok
 os:s.os=X.s₀.os
 bare:AllBare s.gens
 base:Un X.fs X.ex X.H₀ H X.s₀.heap s.heap
 loc:∃ m,s.heap.Ns X.env.locals m/\∀ (i:Nat) (x:Str) (v:V),X.N[i]?=some x->σ[i]?=some (some v)->Vis X.env.scope x->∃ u,ZI v u/\Look X.env s.heap m x u
 cell:∀ x c,X.env.cells.lookup x=some c->∃ v,s.heap.IsCell c v
 free:H X.env.locals=none
 freeC:∀ x c,X.env.cells.lookup x=some c->H c=none
 pin:∀ p∈X.pn++pins,s.heap.get? p.1=some p.2/\H p.1=none/\p.1≠X.env.locals/\p.1∉X.fs/\∀ v,p.2.data≠.cell v
 hok:HOk X.prog X.w H s.heap
 len:σ.length=X.N.length
section
variable {X:Cx}{pins:List (Addr×Obj)}{σ:List (Option V)}{H H':Hp}{s:Shared}{h':Heap}
theorem Cx.Ok.nofr (ok:X.Ok){b:Addr}{o:Obj}(e:X.base.get? b=some o):b∉X.fs:=fun hb=>by
 have:=(ok.funs.mem hb).1;rw[e]at this;cases this
theorem Inv.bs (I:Inv X pins σ H s):∀ b o,X.base.get? b=some o->s.heap.get? b=some o/\H b=none:=fun b o e=>
 ⟨I.base.keep b o (I.ok.bs b o e).1 (I.ok.bs b o e).2 (I.ok.nofr e) (I.ok.noex b o e),I.base.free b o (I.ok.bs b o e).1 (I.ok.bs b o e).2 (I.ok.noex b o e)⟩
theorem Inv.bk (I:Inv X pins σ H s):∀ b o,X.base.get? b=some o->s.heap.get? b=some o:=fun b o e=>(I.bs b o e).1
theorem Inv.mod (I:Inv X pins σ H s):Mod X.K X.mg X.base:=I.ok.mod
theorem Inv.kIn (I:Inv X pins σ H s):X.K.In s.heap:=I.ok.mod.kin.keeps I.bk
theorem Inv.lt (I:Inv X pins σ H s):X.env.locals<s.heap.objs.size:=let ⟨_,hn,_⟩:=I.loc;hn.lt
theorem Inv.sz (I:Inv X pins σ H s):X.s₀.heap.objs.size<=s.heap.objs.size:=Y1c I.ok.above (Y14 I.lt)
theorem Inv.nofs (I:Inv X pins σ H s){a:Addr}(h:s.heap.objs.size<=a):a∉X.fs:=fun hb=>by
 obtain⟨_,o,ho,_⟩:=I.ok.funs.mem hb;exact absurd (Y0i (Y0a ho) (Y1c I.sz h)) (Y1o _)
theorem Inv.cne (I:Inv X pins σ H s):∀ x c,X.env.cells.lookup x=some c->c≠X.env.locals:=fun x c e z=>by
 obtain⟨v,o,ho,hd⟩:=I.cell x c e;obtain⟨m,⟨o',es,ep,ho',hd',_⟩,_⟩:=I.loc;rw[z,ho']at ho;cases ho;rw[hd']at hd;cases hd
theorem Inv.funs (I:Inv X pins σ H s):s.heap.FunFrames X.base X.outer:=by
 have all:∀ (l:List Env),(∀ b∈frs l,b∈X.fs)->X.s₀.heap.FunFrames X.base l->s.heap.FunFrames X.base l:=by
  intro l
  induction l with
  | nil=>intro _ _;trivial
  | cons env r ih=>
   intro hs hl;obtain⟨hk,⟨L,o,hf,hn,ho,hd⟩,hr⟩:=hl;have hL:L∈X.fs:=hs L (by unfold frs;rw[Y37,hf];exact Y1r);obtain⟨sl,e⟩:=I.base.slot L o ho (I.ok.frf L hL) hL fun z=>I.ok.exfs L z hL;exact⟨hk,⟨L,_,hf,hn,e,hd⟩,ih (fun b hb=>hs b (by unfold frs;rw[Y37,hf];exact Y0r _ hb)) hr⟩
 exact all X.outer (fun _ hb=>hb) I.ok.funs
theorem Inv.stack (I:Inv X pins σ H s):s.heap.FunFrames X.base X.stack:=by
 rcases I.ok.stk with e|⟨e,hf⟩
 ·rw[e];exact I.funs
 ·rw[e];obtain⟨m,hn,_⟩:=I.loc;refine .cons (by rw[I.ok.kind];decide) hf hn ?_ I.funs;exact Heap.get?_none_of_le (Y1c I.ok.bsz I.ok.above)
theorem Inv.stkSub (I:Inv X pins σ H s):∀ b∈frs X.stack,b∈X.env.locals::X.fs:=fun b hb=>by
 rcases I.ok.stk with e|⟨e,hf⟩
 ·rw[e]at hb;exact Y0r _ hb
 ·rw[e]at hb;unfold frs at hb;rw[Y37,hf]at hb;exact hb
theorem Inv.stkFree (I:Inv X pins σ H s):∀ b∈frs X.stack,H b=none:=fun b hb=>by
 rcases Y0k.mp (I.stkSub b hb) with e|hb
 ·rw[e];exact I.free
 ·obtain⟨_,o,ho,_⟩:=I.ok.funs.mem hb;exact I.base.free b o ho (I.ok.frf b hb) fun z=>I.ok.exfs b z hb
theorem Inv.step {g':Array GenState}{t':Nat}{d':Drawn}{ch:List Addr}(I:Inv X pins σ H s)
  (hch:∀ b∈ch,(b∈X.ex\/X.s₀.heap.objs.size<=b)/\b≠X.env.locals/\(∀ x c,X.env.cells.lookup x=some c->c≠b)/\∀ p∈X.pn++pins,p.1≠b)
  (keep:∀ b o,b≠X.env.locals->b∉X.fs->b∉ch->s.heap.get? b=some o->H b=none->h'.get? b=some o)
  (slot:∀ b o,b≠X.env.locals->b∈X.fs->b∉ch->s.heap.get? b=some o->H b=none->∃ sl,h'.get? b=some { o with slots:=sl }) (free:∀ b o,b∉ch->s.heap.get? b=some o->H b=none->H' b=none)
  (there:∀ b o,b∉ch->s.heap.get? b=some o->∃ o',h'.get? b=some o')
  (tups:∀ b xs,H b=some (.tup xs)->H' b=some (.tup xs)) (frzs:∀ b o u,H b=some (.frz o u)->H' b=some (.frz o u)) (tbls:∀ b ps,H b=some (.tbl ps)->∃ more,H' b=some (.tbl (ps++more)))
  (ns:∀ m,s.heap.Ns X.env.locals m->h'.Ns X.env.locals m) (hok:HOk X.prog X.w H' h') (hg:AllBare g') :
  Inv X pins σ H' { s with heap:=h',gens:=g',drawn:=d',toks:=t' }:=by
 have neL:∀ b o,X.s₀.heap.get? b=some o->b≠X.env.locals:=fun b o e=>Y0j (Y0i (Y0a e) I.ok.above);have neC:∀ b o,X.s₀.heap.get? b=some o->b∉X.ex->b∉ch:=fun b o e hx hb=>by
  rcases (hch b hb).1 with z|z
  ·exact hx z
  ·exact absurd (Y0i (Y0a e) z) (Y1o _)
 have cellK:∀ x c,X.env.cells.lookup x=some c->∀ v,s.heap.IsCell c v->h'.IsCell c v:=fun x c e v ⟨o,ho,hd⟩=>by
  have nch:c∉ch:=fun z=>(hch c z).2.2.1 x c e rfl
  by_cases hc:c∈X.fs
  ·obtain⟨sl,q⟩:=slot c o (I.cne x c e) hc nch ho (I.freeC x c e);exact⟨_,q,hd⟩
  ·exact⟨o,keep c o (I.cne x c e) hc nch ho (I.freeC x c e),hd⟩
 refine⟨I.ok,I.os,hg,⟨fun b o e n hb hx=>?_,fun b o e n hb hx=>?_,fun b o e n hx=>?_,fun b o e hx=>?_,fun b xs e=>tups b xs (I.base.tups b xs e),fun b o xs e=>frzs b o xs (I.base.frzs b o xs e),fun b ps e=>?_⟩,?_,fun x c e=>?_,?_,fun x c e=>?_,fun p hp=>?_,hok,I.len⟩
 ·exact keep b o (neL b o e) hb (neC b o e hx) (I.base.keep b o e n hb hx) (I.base.free b o e n hx)
 ·obtain⟨sl,e1⟩:=I.base.slot b o e n hb hx;obtain⟨sl',e2⟩:=slot b _ (neL b o e) hb (neC b o e hx) e1 (I.base.free b o e n hx);exact⟨sl',e2⟩
 ·obtain⟨o',e1⟩:=I.base.there b o e hx;exact free b o' (neC b o e hx) e1 (I.base.free b o e n hx)
 ·obtain⟨o',e1⟩:=I.base.there b o e hx;exact there b o' (neC b o e hx) e1
 ·obtain⟨m1,e1⟩:=I.base.tbls b ps e;obtain⟨m2,e2⟩:=tbls b _ e1;exact⟨m1++m2,by rw[e2,Array.append_assoc]⟩
 ·obtain⟨m,hn,hl⟩:=I.loc;refine⟨m,ns m hn,fun i x v e1 e2 e3=>?_⟩;obtain⟨u,r,l⟩:=hl i x v e1 e2 e3;refine⟨u,r,?_⟩;rcases l with l|⟨k,c,e,z⟩
  ·exact .inl l
  ·exact .inr ⟨k,c,e,cellK x c e _ z⟩
 ·obtain⟨v,z⟩:=I.cell x c e;exact⟨v,cellK x c e v z⟩
 ·obtain⟨m,⟨o,_,_,ho,_⟩,_⟩:=I.loc;exact free _ o (fun z=>(hch _ z).2.1 rfl) ho I.free
 ·obtain⟨v,o,ho,hd⟩:=I.cell x c e;exact free c o (fun z=>(hch c z).2.2.1 x c e rfl) ho (I.freeC x c e)
 ·obtain⟨e,n,ne,nf,d⟩:=I.pin p hp;have nch:p.1∉ch:=fun z=>(hch p.1 z).2.2.2 p hp rfl;exact⟨keep p.1 p.2 ne nf nch e n,free p.1 p.2 nch e n,ne,nf,d⟩
theorem Inv.un {t':Nat}(I:Inv X pins σ H s)(u:Un X.fs [] H H' s.heap h')(hok:HOk X.prog X.w H' h'):Inv X pins σ H' { s with heap:=h',toks:=t' }:=by
 obtain⟨m,⟨o,es,ep,ho,r⟩,_⟩:=id I.loc;obtain⟨sl,hL⟩:=u.any ho I.free (by simp);exact I.step (g':=s.gens) (d':=s.drawn) (ch:=[]) (fun _ z=>nomatch z) (fun b o _ hb _ e n=>u.keep b o e n hb (by simp)) (fun b o _ hb _ e n=>u.slot b o e n hb (by simp)) (fun b o _ e n=>u.free b o e n (by simp)) (fun b o _ e=>u.there b o e (by simp)) u.tups u.frzs u.tbls (fun m' hm=>by
  obtain⟨o',es',ep',ho',r'⟩:=hm
  rw[ho]at ho';cases ho'
  exact⟨_,es',ep',hL,r'⟩) hok I.bare
theorem Inv.call {g':Array GenState}{t':Nat}{d':Drawn}{ch:List Addr}(I:Inv X pins σ H s)(u:Un (frs X.stack) ch H H' s.heap h')(hok:HOk X.prog X.w H' h')(hg:AllBare g')
  (hch:∀ b∈ch,(b∈X.ex\/X.s₀.heap.objs.size<=b)/\b≠X.env.locals/\(∀ x c,X.env.cells.lookup x=some c->c≠b)/\∀ p∈X.pn++pins,p.1≠b) :
  Inv X pins σ H' { s with heap:=h',gens:=g',drawn:=d',toks:=t' }:=by
 obtain⟨m,⟨o,es,ep,ho,r⟩,_⟩:=id I.loc;obtain⟨sl,hL⟩:=u.any ho I.free fun z=>(hch _ z).2.1 rfl;exact I.step (ch:=ch) hch (fun b o hL hb hc e n=>u.keep b o e n (fun z=>(Y0k.mp (I.stkSub b z)).elim hL hb) hc) (fun b o _ _ hc e n=>u.any e n hc) (fun b o hc e n=>u.free b o e n hc) (fun b o hc e=>u.there b o e hc) u.tups u.frzs u.tbls (fun m' hm=>by
  obtain⟨o',es',ep',ho',r'⟩:=hm
  rw[ho]at ho';cases ho'
  exact⟨_,es',ep',hL,r'⟩) hok hg
theorem Inv.turned {t':Nat}{it:Addr}(I:Inv X pins σ H s)(k:∀ b o,b≠it->s.heap.get? b=some o->h'.get? b=some o)(hn:H it=none)(hL:it≠X.env.locals)
  (h1:it∈X.ex\/X.s₀.heap.objs.size<=it) (h2:∀ x c,X.env.cells.lookup x=some c->c≠it) (h3:∀ p∈X.pn++pins,p.1≠it):Inv X pins σ H { s with heap:=h',toks:=t' }:=by
 have nit:∀ b u,H b=some u->b≠it:=fun b u e z=>by rw[z,hn]at e;cases e
 refine I.step (g':=s.gens) (d':=s.drawn) (ch:=[it]) (fun b hb=>?_) (fun b o _ _ hc e _=>k b o (fun z=>hc (by simp[z])) e) (fun b o _ _ hc e _=>⟨o.slots,k b o (fun z=>hc (by simp[z])) e⟩) (fun _ _ _ _ n=>n)
  (fun b o hc e=>⟨o,k b o (fun z=>hc (by simp[z])) e⟩) (fun _ _ e=>e) (fun _ _ _ e=>e) (fun b ps e=>⟨#[],by rw[e];simp⟩) (fun m hm=>?_) (fun b u e=>?_) I.bare
 ·have e:b=it:=by simpa using hb
  subst e;exact⟨h1,hL,h2,h3⟩
 ·obtain⟨o,es,ep,ho,r⟩:=hm;exact⟨o,es,ep,k _ o (Ne.symm hL) ho,r⟩
 ·refine (I.hok b u e).stay (fun c v hc q=>k c v ?_ q) (fun _ q=>q) fun _ _ q=>q;rcases hc with z|z
  ·rw[z];exact nit b u e
  ·exact nit c _ z
theorem Inv.tok (I:Inv X pins σ H s)(t:Nat):Inv X pins σ H { s with toks:=t }:=I.un (h':=s.heap) (t':=t) Un.refl I.hok
theorem Inv.kept {t':Nat}(I:Inv X pins σ H s)(k:∀ b u,s.heap.get? b=some u->h'.get? b=some u):Inv X pins σ H { s with heap:=h',toks:=t' }:=I.un (Un.kept k) (I.hok.kept k)
theorem Inv.laid {a:Addr}{o:HO}{t':Nat}(I:Inv X pins σ H s)(k:∀ b u,s.heap.get? b=some u->h'.get? b=some u)(hp:s.heap.objs.size<=a)(new:Zi X.prog X.w (upd H a o) h' a o) :
  Inv X pins σ (upd H a o) { s with heap:=h',toks:=t' }:=I.un (Un.laid k hp (I.hok.fresh hp)) (I.hok.laid k hp new)
theorem Inv.write {x e:Addr}{o:HO}{t':Nat}(I:Inv X pins σ H s)(mu:Mut (H x))(he:e=x\/H e=some (.own x))(k:∀ b u,b≠e->s.heap.get? b=some u->h'.get? b=some u)(heo:∃ u,h'.get? e=some u)
  (new:Zi X.prog X.w (upd H x o) h' x o):Inv X pins σ (upd H x o) { s with heap:=h',toks:=t' }:=I.un (Un.write mu he k heo) (I.hok.write mu he k heo new)
theorem Inv.pins_of {pins':List (Addr×Obj)}(I:Inv X pins σ H s)(h:∀ p∈pins',s.heap.get? p.1=some p.2/\H p.1=none/\p.1≠X.env.locals/\p.1∉X.fs/\∀ v,p.2.data≠.cell v):Inv X pins' σ H s:=
 ⟨I.ok,I.os,I.bare,I.base,I.loc,I.cell,I.free,I.freeC,fun p hp=>(Y1d.mp hp).elim (fun z=>I.pin p (Y1x _ z)) (h p),I.hok,I.len⟩
theorem Z8R {N:List Str}(hN:N.Nodup){i j:Nat}{x:Str}(a:N[i]?=some x)(b:N[j]?=some x):i=j:=by
 obtain⟨h1,e1⟩:=Y07.mp a;obtain⟨h2,e2⟩:=Y07.mp b;exact (List.getElem_inj hN).mp (e1.trans e2.symm)
theorem Z5t {M:Model}{A:Around}{E:Value->Shared->Prop}{i:Nat}{x:Str}{v:V}{u:Value}{Q:Unit->Shared->Prop}(I:Inv X pins σ H s)(hN:X.N.Nodup)(hi:X.N[i]?=some x)(hx:Loc X.env.scope x)(r:ZI v u)
  (h:∀ s',Inv X pins (σ.set i (some v)) H s'->(∃ a,Y3j a s.heap s'.heap/\(a=X.env.locals\/X.env.cells.lookup x=some a))->Q () s') (hf:X.fn x=true\/X.env.scope.names.lookup x=some .local:=by first|exact .inl rfl|exact .inr rfl|assumption):wpAny M A (storeName X.env x u) Q E s:=by
 obtain⟨m,hn,hl⟩:=id I.loc;have hcls:(X.env.scope.kind == .class||(X.env.scope.kind == .module&&X.env.locals != X.env.globals))=false:=by rw[I.ok.kind];rfl
 have hiσ:i<σ.length:=by rw[I.len];exact (Y07.mp hi).1
 have cne:=I.cne;have tracked:∀ {a:Addr} {h':Heap},(∃ o,s.heap.get? a=some o/\H a=none)->Y3j a s.heap h'->HOk X.prog X.w H h':=fun {a h'} ha hs b ob e=>by
  obtain⟨_,_,hfree⟩:=ha;refine (I.hok b ob e).stay (fun c w' hc q=>(hs.2 c ?_).trans q) (fun _ q=>q) fun _ _ q=>q;rintro rfl;rcases hc with rfl|hc
  ·rw[hfree]at e;cases e
  ·rw[hfree]at hc;cases hc
 rcases hx with hk|hk
 ·refine wpAny_storeName_local hk hn (fun h' hn' hs=>?_) hcls;obtain⟨oL,_,_,hoL,_⟩:=id hn;refine h _ ⟨I.ok,I.os,I.bare,⟨fun b o e n hb hx=>?_,fun b o e n hb hx=>?_,I.base.free,fun b o e hx=>?_,I.base.tups,I.base.frzs,I.base.tbls⟩,⟨_,hn',fun j y v' e1 e2 e3=>?_⟩,fun y c e=>?_,I.free,I.freeC,fun p hp=>?_,tracked ⟨oL,hoL,I.free⟩ hs,by simpa using I.len⟩ ⟨_,hs,.inl rfl⟩
  ·exact (hs.2 b (Y0j (Y0i (Y0a e) I.ok.above))).trans (I.base.keep b o e n hb hx)
  ·obtain⟨sl,e1⟩:=I.base.slot b o e n hb hx;exact⟨sl,(hs.2 b (Y0j (Y0i (Y0a e) I.ok.above))).trans e1⟩
  ·obtain⟨o',e1⟩:=I.base.there b o e hx;exact⟨o',(hs.2 b (Y0j (Y0i (Y0a e) I.ok.above))).trans e1⟩
  ·by_cases hj:j=i
   ·subst hj;rw[hi]at e1;cases e1;rw[Y2r hiσ]at e2;cases e2;exact⟨u,r,.inl ⟨hk,by simp⟩⟩
   ·rw[Y33 (Ne.symm hj)]at e2;obtain⟨u',r',q⟩:=hl j y v' e1 e2 e3;refine⟨u',r',?_⟩;rcases q with ⟨k,e⟩|⟨k,c,e,z⟩
    ·refine .inl ⟨k,?_⟩;have:y≠x:=fun e=>hj (Z8R hN e1 (e ▸ hi));simp[this,e]
    ·exact .inr ⟨k,c,e,z.sameBut hs (cne y c e)⟩
  ·obtain⟨w',z⟩:=I.cell y c e;exact⟨w',z.sameBut hs (cne y c e)⟩
  ·obtain⟨e,n,ne,nf,d⟩:=I.pin p hp;exact⟨(hs.2 p.1 ne).trans e,n,ne,nf,d⟩
 ·have hfn:X.fn x=true:=by
   rcases hf with z|z
   ·exact z
   ·rw[z]at hk;cases hk
  obtain⟨c,hc⟩:=I.ok.has x (.inl hk);obtain⟨w',z⟩:=I.cell x c hc;refine wpAny_storeName_cell I.ok.kind hk hc z (fun h' hc' hs=>?_);obtain⟨oc,hoc,hocd⟩:=id z;refine h { s with heap:=h' } ⟨I.ok,I.os,I.bare,⟨fun b o e n hb hx=>?_,fun b o e n hb hx=>?_,I.base.free,fun b o e hx=>?_,I.base.tups,I.base.frzs,I.base.tbls⟩,⟨m,hn.sameBut hs (Ne.symm (cne x c hc)),fun j y v' e1 e2 e3=>?_⟩,fun y c' e=>?_,I.free,I.freeC,fun p hp=>?_,tracked ⟨oc,hoc,I.freeC x c hc⟩ hs,by simpa using I.len⟩ ⟨c,hs,.inr hc⟩
  ·exact (hs.2 b (Y0j (Y0i (Y0a e) (I.ok.cab x c hfn hc)))).trans (I.base.keep b o e n hb hx)
  ·obtain⟨sl,e1⟩:=I.base.slot b o e n hb hx;exact⟨sl,(hs.2 b (Y0j (Y0i (Y0a e) (I.ok.cab x c hfn hc)))).trans e1⟩
  ·obtain⟨o',e1⟩:=I.base.there b o e hx;exact⟨o',(hs.2 b (Y0j (Y0i (Y0a e) (I.ok.cab x c hfn hc)))).trans e1⟩
  ·by_cases hj:j=i
   ·subst hj;rw[hi]at e1;cases e1;rw[Y2r hiσ]at e2;cases e2;exact⟨u,r,.inr ⟨.inl hk,c,hc,hc'⟩⟩
   ·rw[Y33 (Ne.symm hj)]at e2;obtain⟨u',r',q⟩:=hl j y v' e1 e2 e3;refine⟨u',r',?_⟩;rcases q with q|⟨k,c',e,z'⟩
    ·exact .inl q
    ·refine .inr ⟨k,c',e,z'.sameBut hs ?_⟩;rintro rfl;exact hj (Z8R hN e1 (I.ok.inj _ _ _ e hc ▸ hi))
  ·by_cases hcc:c'=c
   ·subst hcc;exact⟨_,hc'⟩
   ·obtain⟨w2,z2⟩:=I.cell y c' e;exact⟨w2,z2.sameBut hs hcc⟩
  ·obtain⟨e,n,ne,nf,d⟩:=I.pin p hp;refine⟨(hs.2 p.1 ?_).trans e,n,ne,nf,d⟩;intro q;rw[q,hoc]at e;have q':oc=p.2:=Option.some.inj e;exact d w' (by rw[<-q'];exact hocd)
theorem Z6b {M:Model}{A:Around}{E:Value->Shared->Prop}{i:Nat}{x:Str}{v:V}{u:Value}{Q:Unit->Shared->Prop}(I:Inv X pins σ H s)(hN:X.N.Nodup)(hi:X.N[i]?=some x)(hx:Loc X.env.scope x)(r:ZI v u)
  (h:∀ s',Inv X pins (σ.set i (some v)) H s'->Q () s') (hf:X.fn x=true\/X.env.scope.names.lookup x=some .local:=by first|exact .inl rfl|exact .inr rfl|assumption):wpAny M A (storeName X.env x u) Q E s:=
 Z5t I hN hi hx r (fun s' I' _=>h s' I') hf
theorem Inv.call' {s':Shared}{ch:List Addr}(I:Inv X pins σ H s)(ho:s'.os=s.os)(u:Un (frs X.stack) ch H H' s.heap s'.heap)(hok:HOk X.prog X.w H' s'.heap)(hg:AllBare s'.gens)
  (hch:∀ b∈ch,(b∈X.ex\/X.s₀.heap.objs.size<=b)/\b≠X.env.locals/\(∀ x c,X.env.cells.lookup x=some c->c≠b)/\∀ p∈X.pn++pins,p.1≠b):Inv X pins σ H' s':=by
 obtain⟨h',g',d',t',o'⟩:=s';have e:o'=s.os:=ho;subst e;exact I.call (g':=g') (t':=t') (d':=d') u hok hg hch
end
noncomputable abbrev XK:=Value->Option Addr->Hp->Prop
noncomputable abbrev St:=List (Option V)
noncomputable abbrev VK:=V->Hp->Prop
noncomputable abbrev TE:=St->Hp->VK->Prop
noncomputable abbrev TT:=St->Hp->(Bool->Hp->Prop)->Prop
noncomputable abbrev TA:=St->Hp->(List V->Hp->Prop)->Prop
structure YZ where
 nx:St->Hp->Prop
 rt:VK
 bk:St->Hp->Prop:=fun _ _=>False
 ct:St->Hp->Prop:=fun _ _=>False
noncomputable abbrev TS:=YZ->St->Hp->Prop
def EP (X:Cx)(pins:List (Addr×Obj))(σ:St)(Q:VK)(u:Value)(s':Shared):Prop:=∃ v H',Inv X pins σ H' s'/\ZI v u/\Q v H'
def TP (X:Cx)(pins:List (Addr×Obj))(σ:St)(Q:Bool->Hp->Prop)(b:Bool)(s':Shared):Prop:=∃ H',Inv X pins σ H' s'/\Q b H'
def AP (X:Cx)(pins:List (Addr×Obj))(σ:St)(Q:List V->Hp->Prop)(us:List Value)(s':Shared):Prop:=∃ vs H',Inv X pins σ H' s'/\ZT vs us/\Q vs H'
def SP (X:Cx)(pins:List (Addr×Obj))(D:YZ)(f:Flow)(s':Shared):Prop:=
 match f with
 | .next=>∃ σ' H',Inv X pins σ' H' s'/\D.nx σ' H'
 | .brk=>∃ σ' H',Inv X pins σ' H' s'/\D.bk σ' H'
 | .cont=>∃ σ' H',Inv X pins σ' H' s'/\D.ct σ' H'
 | .ret u=>∃ v σ' H',Inv X pins σ' H' s'/\ZI v u/\D.rt v H'
def PE (X:Cx)(e:Expr)(t:TE):Prop:=
 ∀ (pins:List (Addr×Obj)) (s:Shared) (σ:St) (H:Hp) (Q:VK),Inv X pins σ H s->t σ H Q->wpAny (model X.prog X.w) X.A (eval e X.env) (EP X pins σ Q) X.xe s
def PT (X:Cx)(e:Expr)(t:TT):Prop:=
 ∀ (pins:List (Addr×Obj)) (s:Shared) (σ:St) (H:Hp) (Q:Bool->Hp->Prop),Inv X pins σ H s->t σ H Q->wpAny (model X.prog X.w) X.A (isTrue e X.env (eval e X.env)) (TP X pins σ Q) X.xe s
def PW (X:Cx)(e:Expr)(t:TT):Prop:=
 ∀ (whole:Sem Value) (pins:List (Addr×Obj)) (s:Shared) (σ:St) (H:Hp) (Q:Bool->Hp->Prop),Inv X pins σ H s->t σ H Q->wpAny (model X.prog X.w) X.A (isTrue e X.env whole) (TP X pins σ Q) X.xe s
theorem PW.pt {X:Cx}{e:Expr}{t:TT}(h:PW X e t):PT X e t:=h _
def PA (X:Cx)(es:List Expr)(t:TA):Prop:=
 ∀ (pos:Pos) (pins:List (Addr×Obj)) (s:Shared) (σ:St) (H:Hp) (Q:List V->Hp->Prop),Inv X pins σ H s->t σ H Q->wpAny (model X.prog X.w) X.A (spliced (backTo pos (starEach es X.env))) (AP X pins σ Q) X.xe s
def PS (X:Cx)(st:Stmt)(t:TS):Prop:=
 ∀ (pins:List (Addr×Obj)) (s:Shared) (σ:St) (H:Hp) (D:YZ),Inv X pins σ H s->t D σ H->wpAny (model X.prog X.w) X.A (exec st X.env) (SP X pins D) X.xe s
def PSs (X:Cx)(st:List Stmt)(t:TS):Prop:=
 ∀ (pins:List (Addr×Obj)) (s:Shared) (σ:St) (H:Hp) (D:YZ),Inv X pins σ H s->t D σ H->wpAny (model X.prog X.w) X.A (execs st X.env) (SP X pins D) X.xe s
theorem thn {α:Type}{t:Sem α}{Q Q':α->Shared->Prop}{M:Model}{A:Around}{E:Value->Shared->Prop}{s:Shared}(h:wpAny M A t Q E s)(hQ:∀ a s,Q a s->Q' a s):wpAny M A t Q' E s:=wpAny_mono h hQ fun _ _ x=>x
section
variable {X:Cx}
noncomputable def ZW (i:Nat):TE:=fun σ H Q=>∃ v,σ[i]?=some (some v)/\Q v H
noncomputable def tC (v:V):TE:=fun _ H Q=>Q v H
theorem Zgx {i:Nat}{x:Str}{pos:Pos}(hN:X.N[i]?=some x)(hv:Vis X.env.scope x)(hd:(x==("__debug__":Str))=false:=by decide)(hcd:(x==("__classdict__":Str))=false:=by decide):PE X (.Name x pos) (ZW i):=by
 intro pins s σ H Q I h;obtain⟨v,e,h⟩:=h;obtain⟨m,hn,hl⟩:=I.loc;obtain⟨u,r,l⟩:=hl i x v hN e hv;have fin:EP X pins σ Q u s:=⟨v,H,I,r,h⟩;rcases l with ⟨hk,hm⟩|⟨hk,c,hc,hcell⟩
 ·exact wpAny_Name (wpAny_loadName_local I.ok.kind hk hn hm fin) hd
 ·rcases hk with hk|hk
  ·exact wpAny_Name (wpAny_loadName_cell I.ok.kind hk hc hcell fin) hd
  ·exact wpAny_Name (wpAny_loadName_free I.ok.kind hk hc hcell fin hcd) hd
theorem Z3 {i j pos}:PE X (.Constant (.int i) j pos) (tC (.int i)):=fun _ _ _ H _ I h=>wpAny_Constant_int ⟨.int i,H,I.tok _,⟨_,rfl⟩,h⟩
theorem Yy {b j pos}:PE X (.Constant (.bool b) j pos) (tC (.bl b)):=fun _ _ _ H _ I h=>Constant_bool ⟨.bl b,H,I,rfl,h⟩
theorem SH {j pos}:PE X (.Constant .none j pos) (tC .non):=fun _ _ _ H _ I h=>Constant_none ⟨.non,H,I,rfl,h⟩
theorem ZH {x j pos}:PE X (.Constant (.str x) j pos) (tC (.str x)):=fun _ _ _ H _ I h=>Calls.Constant_str ⟨.str x,H,I.tok _,⟨_,rfl⟩,h⟩
def Gl (X:Cx)(x:Str):Prop:=X.env.kindOf x=some .globalImplicit
theorem Wv {E:Value->Shared->Prop}{pins:List (Addr×Obj)}{s:Shared}{σ:St}{H:Hp}{x:Str}{u:Value}{pos:Pos}{Q:Value->Shared->Prop}(I:Inv X pins σ H s)(hg:Gl X x)(hm:X.mg x=some u)(h:Q u s)
  (hd:(x==("__debug__":Str))=false:=by decide):wpAny (model X.prog X.w) X.A (eval (.Name x pos) X.env) Q E s:=
 Calls.Name_function_global I.ok.kind hg (Calls.loadGlobal_global (by rw[I.ok.glob];exact I.mod.glob.keeps I.bk) hm h) hd
theorem Wo {E:Value->Shared->Prop}{pins:List (Addr×Obj)}{s:Shared}{σ:St}{H:Hp}{x:Str}{u:Value}{pos:Pos}{Q:Value->Shared->Prop}(I:Inv X pins σ H s)(hg:Gl X x)(hm:X.mg x=none)(hv:bootBuiltins x=some u)(h:Q u s)
  (hn:x≠"__name__":=by decide) (hd:(x==("__debug__":Str))=false:=by decide):wpAny (model X.prog X.w) X.A (eval (.Name x pos) X.env) Q E s:=by
 obtain⟨mb,h1,h2⟩:=I.mod.blt;exact Calls.Name_function_global I.ok.kind hg (Calls.loadGlobal_builtin (by rw[I.ok.glob];exact I.mod.glob.keeps I.bk) hm (by rw[I.ok.blt];exact h1.keeps I.bk) ((h2 x hn).trans hv) h) hd
theorem X6 {x:Str}{v:V}{u:Value}{pos:Pos}(hg:Gl X x)(hm:X.mg x=some u)(r:ZI v u)(hd:(x==("__debug__":Str))=false:=by decide):PE X (.Name x pos) (tC v):=
 fun _ _ _ H _ I h=>Wv I hg hm ⟨v,H,I,r,h⟩ hd
theorem WZ {x:Str}{v:V}{u:Value}{pos:Pos}(hg:Gl X x)(hm:X.mg x=none)(hv:bootBuiltins x=some u)(r:ZI v u)(hn:x≠"__name__":=by decide)(hd:(x==("__debug__":Str))=false:=by decide):PE X (.Name x pos) (tC v):=
 fun _ _ _ H _ I h=>Wo I hg hm hv ⟨v,H,I,r,h⟩ hn hd
variable {a b:Expr}{ta tb:TE}{pos:Pos}
def PC (X:Cx)(op:CmpOp)(a b:Expr)(t:TE):Prop:=
 ∀ (pins:List (Addr×Obj)) (s:Shared) (σ:St) (H:Hp) (Q:VK),Inv X pins σ H s->t σ H Q->
  wpAny (model X.prog X.w) X.A (eval a X.env) (fun v s₁=>wpAny (model X.prog X.w) X.A (eval b X.env) (fun u s₂=>wpAny (model X.prog X.w) X.A (compareOp op v u) (EP X pins σ Q) X.xe s₂) X.xe s₁) X.xe s
noncomputable def tB (t:TE):TT:=fun σ H Q=>t σ H fun x H1=>∃ c,x=.bl c/\Q c H1
theorem ZdU {op:CmpOp}{t:TE}(h:PC X op a b t)(h1:behindInMarks op b=false:=by first|exact nobehind _ (by decide) (by decide)|rfl):PT X (.Compare a [op] [b] pos) (tB t):=by
 intro pins s σ H Q I hw;refine wpAny_isTrue_Compare1 (thn (h pins s σ H _ I hw) fun v s1 h1=>thn h1 fun u s2 h2=>thn h2 fun c s3 ⟨x,H1,I1,r1,q1⟩=>?_) h1;obtain⟨d,rfl,q⟩:=q1;cases r1;exact wpAny_truthy_bool ⟨H1,I1,q⟩
theorem YW {e:Expr}{t:TE}(h:PE X e t)(he:∀ whole,isTrue e X.env whole=(do let v <-whole;standAt e.pos;holding [v] (truthy v)):=by intro _;rfl):PT X e (tB t):=by
 intro pins s σ H Q I hw;refine isTrue_plain (thn (h pins s σ H _ I hw) fun v s1 ⟨x,H1,I1,r1,q1⟩=>?_) (he _);obtain⟨d,rfl,q⟩:=q1;cases r1;exact wpAny_truthy_bool ⟨H1,I1,q⟩
variable {tA tB':TT}{rest:List Expr}
noncomputable def tAnd (t u:TT):TT:=fun σ H Q=>t σ H fun c H1=>if c=true then u σ H1 Q else Q false H1
noncomputable def tOr (t u:TT):TT:=fun σ H Q=>t σ H fun c H1=>if c=true then Q true H1 else u σ H1 Q
noncomputable def TF (t:TT):TT:=fun σ H Q=>t σ H fun c H1=>Q (!c) H1
theorem Za2 (ha:PT X a tA):PW X (.BoolOp .And [a] pos) tA:=by
 intro wh pins s σ H Q I h;refine isTrue_and (thn (ha pins s σ H Q I h) fun c s1 e=>?_);cases c with
 | true=>exact isTrue_and_nil e
 | false=>exact e
theorem SM (ha:PT X a tA):PW X (.BoolOp .Or [a] pos) tA:=by
 intro wh pins s σ H Q I h;refine isTrue_or (thn (ha pins s σ H Q I h) fun c s1 e=>?_);cases c with
 | false=>exact isTrue_or_nil e
 | true=>exact e
theorem ZdQ (ha:PT X a tA)(hb:PW X (.BoolOp .And (b::rest) pos) tB'):PW X (.BoolOp .And (a::b::rest) pos) (tAnd tA tB'):=by
 intro wh pins s σ H Q I h;refine isTrue_and (thn (ha pins s σ H _ I h) fun c s1 ⟨H1,I1,q1⟩=>?_);cases c with
 | true=>exact hb wh pins s1 σ H1 Q I1 q1
 | false=>exact⟨H1,I1,q1⟩
theorem Vp (ha:PT X a tA)(hb:PW X (.BoolOp .Or (b::rest) pos) tB'):PW X (.BoolOp .Or (a::b::rest) pos) (tOr tA tB'):=by
 intro wh pins s σ H Q I h;refine isTrue_or (thn (ha pins s σ H _ I h) fun c s1 ⟨H1,I1,q1⟩=>?_);cases c with
 | true=>exact⟨H1,I1,q1⟩
 | false=>exact hb wh pins s1 σ H1 Q I1 q1
theorem Yt (ha:PT X a tA):PT X (.UnaryOp .Not a pos) (TF tA):=by
 intro pins s σ H Q I h;exact isTrue_not (ha pins s σ H (fun c H1=>Q (!c) H1) I h)
noncomputable def Zh9 (ta tb:TE):TE:=fun σ H Q=>ta σ H fun x H1=>∃ c,x=.bl c/\if c=true then tb σ H1 Q else Q (.bl false) H1
noncomputable def ZhW (ta:TE):TE:=fun σ H Q=>ta σ H fun x H1=>∃ c,x=.bl c/\Q (.bl (!c)) H1
theorem WY {op}{t:TE}(h:PE X a t):PE X (.BoolOp op [a] pos) t:=fun pins s σ H Q I hw=>BoolOp_one (h pins s σ H Q I hw)
theorem XN (ha:PE X a ta)(hb:PE X (.BoolOp .And (b::rest) pos) tb):PE X (.BoolOp .And (a::b::rest) pos) (Zh9 ta tb):=by
 intro pins s σ H Q I h;refine BoolOp_and (thn (ha pins s σ H _ I h) fun v s1 ⟨x,H1,I1,r1,q1⟩=>?_);obtain⟨c,rfl,q1⟩:=q1;cases r1;refine wpAny_truthy_bool ?_;cases c with
 | true=>exact hb pins s1 σ H1 Q I1 q1
 | false=>exact⟨.bl false,H1,I1,rfl,q1⟩
theorem Zef (ha:PE X a ta):PE X (.UnaryOp .Not a pos) (ZhW ta):=by
 intro pins s σ H Q I h;refine UnaryOp_ (thn (ha pins s σ H _ I h) fun v s1 ⟨x,H1,I1,r1,q1⟩=>?_);obtain⟨c,rfl,q1⟩:=q1;cases r1;exact not_of (wpAny_truthy_bool ⟨.bl (!c),H1,I1,rfl,q1⟩)
noncomputable def tIf (t:TT)(ta tb:TE):TE:=fun σ H Q=>t σ H fun c H1=>if c=true then ta σ H1 Q else tb σ H1 Q
theorem Tf {c:Expr}(hc:PT X c tA)(ha:PE X a ta)(hb:PE X b tb):PE X (.IfExp c a b pos) (tIf tA ta tb):=by
 intro pins s σ H Q I h;refine wpAny_IfExp (thn (hc pins s σ H _ I h) fun d s1 ⟨H1,I1,q1⟩=>?_);cases d with
 | true=>exact ha pins s1 σ H1 Q I1 q1
 | false=>exact hb pins s1 σ H1 Q I1 q1
end
def SqL (K:Y00)(H:Hp)(a:Addr)(xs:List V):Prop:=
 Rd H a (.lst xs)\/
  ∃ (o:Obj) (its:Array Value) (n:Nat),K.lookup a=some o/\o.cls=.type "list"/\o.dict=none/\o.data=.seq its n/\its.size<=sizeLine/\ZT xs its.toList
def SqT (K:Y00)(H:Hp)(a:Addr)(xs:List V):Prop:=
 Rd H a (.tup xs)\/
  ∃ (o:Obj) (its:Array Value) (n:Nat),K.lookup a=some o/\o.cls=.type "tuple"/\o.data=.seq its n/\its.size<=sizeLine/\ZT xs its.toList
noncomputable def absV:Value->Option V
 | .none=>some .non
 | .bool b=>some (.bl b)
 | .int i _=>some (.int i)
 | .str x _=>some (.str x)
 | .bytes b _=>some (.byt b)
 | .float b _=>some (.flt b)
 | .ref a=>some (.ref a)
 | .type n=>some (.ty n)
 | _=>none
theorem ZI.abs {x:V}{u:Value}(r:ZI x u):absV u=some x:=by
 cases x with
 | non=>cases r;rfl
 | bl _=>cases r;rfl
 | int _=>obtain⟨t,rfl⟩:=r;rfl
 | str _=>obtain⟨t,rfl⟩:=r;rfl
 | byt _=>obtain⟨t,rfl⟩:=r;rfl
 | flt _=>obtain⟨t,rfl⟩:=r;rfl
 | ref _=>cases r;rfl
 | ty _=>cases r;rfl
theorem ZI.inj {x y:V}{u:Value}(r:ZI x u)(q:ZI y u):x=y:=Option.some.inj (r.abs.symm.trans q.abs)
theorem ZT.inj:∀ {xs ys:List V} {us:List Value},ZT xs us->ZT ys us->xs=ys
 | _,_,_,.nil,.nil=>rfl
 | _,_,_,.cons r t,.cons r' t'=>by rw[r.inj r',ZT.inj t t']
section
variable {X:Cx}{pins:List (Addr×Obj)}{σ:St}{H:Hp}{s:Shared}{a:Addr}{xs ys:List V}
theorem SqL.of {K:Y00}(h:H a=some (.lst xs)):SqL K H a xs:=.inl (.inl h)
theorem SqT.of {K:Y00}(h:H a=some (.tup xs)):SqT K H a xs:=.inl (.inl h)
theorem Inv.list (I:Inv X pins σ H s)(h:SqL X.K H a xs):∃ its:List Value,ZT xs its/\PlainL s.heap a its.toArray/\xs.length<=sizeLine:=by
 rcases h with h|⟨o,its,n,hk,hc,hd,hs,hz,r⟩
 ·obtain⟨z,its,n,r,e⟩:=h.ok I.hok;exact⟨its,r,⟨_,n,e,rfl,rfl,rfl⟩,z⟩
 ·refine⟨its.toList,r,⟨o,n,I.kIn a o hk,hc,hd,by simpa using hs⟩,?_⟩;have e:=r.length;simp only[Y2n]at e;omega
theorem Inv.tuple (I:Inv X pins σ H s)(h:SqT X.K H a xs):∃ its:List Value,ZT xs its/\IsTup s.heap a its.toArray/\xs.length<=sizeLine:=by
 rcases h with h|⟨o,its,n,hk,hc,hs,hz,r⟩
 ·obtain⟨z,its,r,p⟩:=h.ok I.hok;exact⟨its,r,p,z.1⟩
 ·refine⟨its.toList,r,⟨o,I.kIn a o hk,hc,n,by simpa using hs⟩,?_⟩;have e:=r.length;simp only[Y2n]at e;omega
theorem Inv.list_inj (I:Inv X pins σ H s)(h:SqL X.K H a xs)(h':SqL X.K H a ys):xs=ys:=by
 obtain⟨its,r,⟨o,n,e,_,_,d⟩,_⟩:=I.list h;obtain⟨its',r',⟨o',n',e',_,_,d'⟩,_⟩:=I.list h';rw[e]at e';cases e';rw[d]at d';injection d' with d1 _
 have:its=its':=by simpa using congrArg Array.toList d1
 subst this;exact r.inj r'
theorem Inv.tuple_inj (I:Inv X pins σ H s)(h:SqT X.K H a xs)(h':SqT X.K H a ys):xs=ys:=by
 obtain⟨its,r,⟨o,e,_,n,d⟩,_⟩:=I.tuple h;obtain⟨its',r',⟨o',e',_,n',d'⟩,_⟩:=I.tuple h';rw[e]at e';cases e';rw[d]at d';injection d' with d1 _
 have:its=its':=by simpa using congrArg Array.toList d1
 subst this;exact r.inj r'
end
abbrev Cx.wish (X:Cx)(E:Value->Shared->Prop):Cx:={ X with xe:=E }
noncomputable abbrev Cx.nox (X:Cx):Cx:=X.wish fun _ _=>False
theorem Cx.Ok.wish {X:Cx}(ok:X.Ok)(E:Value->Shared->Prop):(X.wish E).Ok:=
 ⟨ok.mod,ok.kind,ok.glob,ok.blt,ok.above,ok.inj,ok.has,ok.cab,ok.hd,ok.frames,ok.stk,ok.exf,ok.bs,ok.bsz,ok.noex,ok.exfs,ok.funs,ok.frf⟩
theorem Cx.Ok.unwish {X:Cx}{E:Value->Shared->Prop}(ok:(X.wish E).Ok):X.Ok:=
 ⟨ok.mod,ok.kind,ok.glob,ok.blt,ok.above,ok.inj,ok.has,ok.cab,ok.hd,ok.frames,ok.stk,ok.exf,ok.bs,ok.bsz,ok.noex,ok.exfs,ok.funs,ok.frf⟩
section
variable {X:Cx}{pins:List (Addr×Obj)}{σ:St}{H:Hp}{s:Shared}{E:Value->Shared->Prop}
theorem Inv.wish (I:Inv X pins σ H s)(E:Value->Shared->Prop):Inv (X.wish E) pins σ H s:=⟨I.ok.wish E,I.os,I.bare,I.base,I.loc,I.cell,I.free,I.freeC,I.pin,I.hok,I.len⟩
theorem Inv.unwish (I:Inv (X.wish E) pins σ H s):Inv X pins σ H s:=⟨I.ok.unwish,I.os,I.bare,I.base,I.loc,I.cell,I.free,I.freeC,I.pin,I.hok,I.len⟩
theorem SP.unwish {D:YZ}{f:Flow}{s':Shared}(h:SP (X.wish E) pins D f s'):SP X pins D f s':=by
 cases f with
 | next=>obtain⟨σ',H',I,q⟩:=h;exact⟨σ',H',I.unwish,q⟩
 | brk=>obtain⟨σ',H',I,q⟩:=h;exact⟨σ',H',I.unwish,q⟩
 | cont=>obtain⟨σ',H',I,q⟩:=h;exact⟨σ',H',I.unwish,q⟩
 | ret u=>obtain⟨v,σ',H',I,r,q⟩:=h;exact⟨v,σ',H',I.unwish,r,q⟩
theorem PSs.nox {st:List Stmt}{t:TS}(h:PSs X.nox st t):PSs X st t:=fun pins s σ H D I hw=>
 wpAny_mono (h pins s σ H D (I.wish _) hw) (fun _ _ q=>q.unwish) fun _ _ z=>False.elim z
end
section
variable {X:Cx}{st:Stmt}{rest:List Stmt}{t u:TS}{e:Expr}{te:TE}{pos:Pos}
noncomputable def Wf:TS:=fun D σ H=>D.nx σ H
noncomputable def Yh (t u:TS):TS:=fun D σ H=>t { D with nx:=u D } σ H
theorem Zr:PSs X [] Wf:=fun _ _ σ H _ I h=>wpAny_execs_nil ⟨σ,H,I,h⟩
theorem Z5 (h1:PS X st t)(h2:PSs X rest u):PSs X (st::rest) (Yh t u):=by
 intro pins s σ H D I h;refine wpAny_execs_cons (thn (h1 pins s σ H { D with nx:=u D } I h) fun f s1 q=>?_);cases f with
 | next=>
  obtain⟨σ',H',I',q⟩:=q;exact h2 pins s1 σ' H' D I' q
 | ret v=>exact q
 | brk=>exact q
 | cont=>exact q
theorem Z1 (h1:PS X st t):PSs X [st] t:=by
 intro pins s σ H D I h;refine wpAny_execs_cons (thn (h1 pins s σ H D I h) fun f s1 q=>?_);cases f with
 | next=>exact wpAny_execs_nil q
 | ret v=>exact q
 | brk=>exact q
 | cont=>exact q
theorem Inv.quiet {pins:List (Addr×Obj)}{σ:St}{H:Hp}{s:Shared}(I:Inv X pins σ H s):interactive X.env=false:=by simp[interactive,I.ok.kind]
noncomputable def Zh3 (te:TE):TS:=fun D σ H=>te σ H fun _ H1=>D.nx σ H1
theorem Y3 (he:PE X e te)(hs:swapsWith e none pos.line X.env=pure false:=by rfl):PS X (.Expr e pos) (Zh3 te):=by
 intro pins s σ H D I h;exact wpAny_Expr_any (thn (he pins s σ H _ I h) fun v s1 ⟨x,H1,I1,r1,q1⟩=>⟨σ,H1,I1,q1⟩) I.quiet hs
noncomputable def Xs (te:TE):TS:=fun D σ H=>te σ H D.rt
theorem ZS (he:PE X e te):PS X (.Return (some e) pos) (Xs te):=by
 intro pins s σ H D I h;exact wpAny_Return_some (thn (he pins s σ H _ I h) fun v s1 ⟨x,H1,I1,r1,q1⟩=>⟨x,σ,H1,I1,r1,q1⟩)
noncomputable def TK (c:TT)(t u:TS):TS:=fun D σ H=>c σ H fun b H1=>if b=true then t D σ H1 else u D σ H1
theorem Zu {c:Expr}{a b:List Stmt}{tc:TT}(hc:PT X c tc)(ha:PSs X a t)(hb:PSs X b u):PS X (.If c a b pos) (TK tc t u):=by
 intro pins s σ H D I h;refine wpAny_If (thn (hc pins s σ H _ I h) fun d s1 ⟨H1,I1,q1⟩=>?_);cases d with
 | true=>exact ha pins s1 σ H1 D I1 q1
 | false=>exact hb pins s1 σ H1 D I1 q1
noncomputable def Zh4:TS:=fun _ _ _=>False
theorem Yf {sts:List Stmt}:PSs X sts Zh4:=fun _ _ _ _ _ _ h=>h.elim
end
noncomputable abbrev TG:=V->St->Hp->(St->Hp->Prop)->Prop
noncomputable abbrev TGs:=List V->St->Hp->(St->Hp->Prop)->Prop
def PG (X:Cx)(target:Expr)(t:TG):Prop:=
 ∀ (pins:List (Addr×Obj)) (s:Shared) (σ:St) (H:Hp) (v:V) (u:Value) (Q:St->Hp->Prop),Inv X pins σ H s->ZI v u->t v σ H Q->
  wpAny (model X.prog X.w) X.A (assign target X.env u) (fun _ s'=>∃ σ' H',Inv X pins σ' H' s'/\Q σ' H') X.xe s
def PGs (X:Cx)(ts:List Expr)(t:TGs):Prop:=
 ∀ (pins:List (Addr×Obj)) (s:Shared) (σ:St) (H:Hp) (vs:List V) (us:List Value) (Q:St->Hp->Prop),Inv X pins σ H s->ZT vs us->t vs σ H Q->
  wpAny (model X.prog X.w) X.A (assignInOrder ((assignEach ts X.env).map (·.2)) us) (fun _ s'=>∃ σ' H',Inv X pins σ' H' s'/\Q σ' H') X.xe s
noncomputable abbrev TSet:=V->V->V->Hp->(Hp->Prop)->Prop
def PSet (X:Cx)(t:TSet):Prop:=
 ∀ (pins:List (Addr×Obj)) (s:Shared) (σ:St) (H:Hp) (o i v:V) (ov iv u:Value) (Q:Hp->Prop),Inv X pins σ H s->ZI o ov->ZI i iv->ZI v u->t o i v H Q->
  wpAny (model X.prog X.w) X.A (setItem ov iv u) (fun _ s'=>∃ H',Inv X pins σ H' s'/\Q H') X.xe s
noncomputable abbrev TIp:=V->V->Hp->VK->Prop
def PIp (X:Cx)(op:Operator)(t:TIp):Prop:=
 ∀ (pins:List (Addr×Obj)) (s:Shared) (σ:St) (H:Hp) (x y:V) (v u:Value) (Q:VK),Inv X pins σ H s->ZI x v->ZI y u->t x y H Q->
  wpAny (model X.prog X.w) X.A (inplaceOp op v u) (EP X pins σ Q) X.xe s
section
variable {X:Cx}{pos:Pos}
noncomputable def ZC (i:Nat):TG:=fun v σ H Q=>Q (σ.set i (some v)) H
theorem ZE {i:Nat}{x:Str}(hN:X.N.Nodup)(hi:X.N[i]?=some x)(hx:Loc X.env.scope x)(hf:X.fn x=true\/X.env.scope.names.lookup x=some .local:=by first|exact .inl rfl|exact .inr rfl|assumption):PG X (.Name x pos) (ZC i):=by
 intro pins s σ H v u Q I r h;exact wpAny_assign_Name (Z6b I hN hi hx r (fun s' I'=>⟨_,H,I',h⟩) hf)
noncomputable def gNil:TGs:=fun vs σ H Q=>vs=[]/\Q σ H
noncomputable def Zjf (t:TG)(u:TGs):TGs:=fun vs σ H Q=>∃ v r,vs=v::r/\t v σ H fun σ' H'=>u r σ' H' Q
theorem Xn:PGs X [] gNil:=by
 intro pins s σ H vs us Q I r h;obtain⟨e,h⟩:=h;subst e;cases r;exact assignInOrder_nil ⟨σ,H,I,h⟩
theorem YG {e:Expr}{es:List Expr}{t:TG}{u:TGs}(h1:PG X e t)(h2:PGs X es u)
  (hs:(assignEach (e::es) X.env).map (·.2)=assign e X.env::(assignEach es X.env).map (·.2):=by rfl):PGs X (e::es) (Zjf t u):=by
 intro pins s σ H vs us Q I r h;obtain⟨v,vr,e1,h⟩:=h;subst e1;cases r with
 | cons r rr=>
  rw[hs];refine assignInOrder_cons (thn (h1 pins s σ H _ _ _ I r h) fun _ s1 ⟨σ1,H1,I1,q1⟩=>?_);exact h2 pins s1 σ1 H1 _ _ Q I1 rr q1
noncomputable def gTup (K:Y00)(n:Nat)(t:TGs):TG:=fun v σ H Q=>∃ a xs,v=.ref a/\SqT K H a xs/\xs.length=n/\t xs σ H Q
theorem SO {es:List Expr}{k:Nat}{t:TGs}{n:Nat}(hc:X.calm=true)(h:PGs X es t)
  (hn:(assignEach es X.env).length=n:=by rfl) (hst:(assignEach es X.env).findIdx? (·.1)=none:=by rfl):PG X (.Tuple es k pos) (gTup X.K n t):=by
 intro pins s σ H v u Q I r hw;obtain⟨a,xs,e1,hq,hl,hw⟩:=hw;subst e1;cases r;obtain⟨its,rv,ht,hz⟩:=I.tuple hq;refine assign_Tuple_tuple (I.ok.hd hc) ht (by simp[hn,<-hl,rv.length]) hst fun h' hx=>?_;have I1:Inv X pins σ H { s with heap:=h' }:=I.kept (t':=s.toks) fun b o e=>hx b o (Y0j (Y0a e)) e;exact h pins _ σ H xs _ Q I1 (by simpa using rv) hw
noncomputable def Xv (te:TE)(g:TG):TS:=fun D σ H=>te σ H fun x H1=>g x σ H1 D.nx
theorem Za5 {tg e:Expr}{te:TE}{g:TG}(he:PE X e te)(hg:PG X tg g)(hs:swapsWithSole [tg] e pos.line X.env=pure false:=by rfl)(hw:swappedStores [tg] e X.env=pure none:=by rfl)
  (h1:(assignEach [tg] X.env).map (·.2)=[assign tg X.env]:=by rfl):PS X (.Assign [tg] e pos) (Xv te g):=by
 intro pins s σ H D I h;refine wpAny_Assign_stores (thn (he pins s σ H _ I h) fun v s1 ⟨x,H1,I1,r1,q1⟩=>?_) hs hw;rw[h1];exact thn (hg pins s1 σ H1 x v _ I1 r1 q1) fun _ s2 q=>q
theorem ZP {i:Nat}{x:Str}{e:Expr}{te:TE}{pos':Pos}(hN:X.N.Nodup)(hi:X.N[i]?=some x)(hx:Loc X.env.scope x)(he:PE X e te)(hs:swapsWith e (some (.Name x pos')) pos.line X.env=pure false:=by rfl)(hf:X.fn x=true\/X.env.scope.names.lookup x=some .local:=by first|exact .inl rfl|exact .inr rfl|assumption) :
  PS X (.Assign [.Name x pos'] e pos) (Xv te (ZC i)):=by
 intro pins s σ H D I h;refine wpAny_Assign_Name (thn (he pins s σ H _ I h) fun v s1 ⟨y,H1,I1,r1,q1⟩=>?_) hs;exact Z6b I1 hN hi hx r1 (fun s2 I2=>⟨_,H1,I2,q1⟩) hf
noncomputable def tAug (i:Nat)(te:TE)(ti:TIp):TS:=fun D σ H=>∃ x,σ[i]?=some (some x)/\te σ H fun y H1=>ti x y H1 fun z H2=>D.nx (σ.set i (some z)) H2
theorem ZdO {i:Nat}{x:Str}{e:Expr}{te:TE}{op:Operator}{ti:TIp}{pos':Pos}(hN:X.N.Nodup)(hi:X.N[i]?=some x)(hx:Loc X.env.scope x)(he:PE X e te)(ho:PIp X op ti)(hf:X.fn x=true\/X.env.scope.names.lookup x=some .local:=by first|exact .inl rfl|exact .inr rfl|assumption) :
  PS X (.AugAssign (.Name x pos') op e pos) (tAug i te ti):=by
 intro pins s σ H D I h;obtain⟨v,e1,h⟩:=h;obtain⟨m,hn,hl⟩:=I.loc;have vis:Vis X.env.scope x:=by rcases hx with k|k;exact .inl k;exact .inr (.inl k)
 obtain⟨u,r,l⟩:=hl i x v hi e1 vis;refine wpAny_AugAssign_Name ?_;have go:wpAny (model X.prog X.w) X.A (eval e X.env) (fun w s₂=>wpAny (model X.prog X.w) X.A (inplaceOp op u w) (fun r s₃=>wpAny (model X.prog X.w) X.A (storeName X.env x r) (fun _=>SP X pins D .next) X.xe s₃) X.xe s₂) X.xe s:=by
  refine thn (he pins s σ H _ I h) fun w s1 ⟨y,H1,I1,r1,q1⟩=>?_;refine thn (ho pins s1 σ H1 v y u w _ I1 r r1 q1) fun z s2 ⟨zv,H2,I2,r2,q2⟩=>?_;exact Z6b I2 hN hi hx r2 (fun s3 I3=>⟨_,H2,I3,q2⟩) hf
 rcases l with ⟨hk,hm⟩|⟨hk,c,hc,hcell⟩
 ·exact wpAny_loadName_local I.ok.kind hk hn hm go
 ·rcases hk with hk|hk
  ·exact wpAny_loadName_cell I.ok.kind hk hc hcell go
  ·rcases hx with k|k
   ·have:X.env.scope.names.lookup x=some .free:=hk;rw[k]at this;cases this
   ·have:X.env.scope.names.lookup x=some .free:=hk;rw[k]at this;cases this
noncomputable def ipI (f:Int->Int->Int):TIp:=fun x y H Q=>∃ i j,x=.int i/\y=.int j/\Q (.int (f i j)) H
theorem Ze1:PIp X .Add (ipI fun i j=>i+j):=by
 intro pins s σ H x y v u Q I r1 r2 h;obtain⟨i,j,e1,e2,q⟩:=h;subst e1;subst e2;obtain⟨t,rfl⟩:=r1;obtain⟨t',rfl⟩:=r2;exact iadd_int ⟨.int _,H,I.tok _,⟨_,rfl⟩,q⟩
noncomputable def Zas (c:TT)(tb:TS):TS:=fun D σ H=>∃ W:Nat->St->Hp->Prop,(∃ m,W m σ H)/\∀ m σ H,W m σ H->
 c σ H fun b H1=>if b=true then ∃ N:St->Hp->Prop,(∀ σ' H',N σ' H'->∃ m',m'<m/\W m' σ' H')/\tb { D with nx:=N,ct:=N,bk:=D.nx } σ H1 else D.nx σ H1
theorem W3 {c:Expr}{body:List Stmt}{tc:TT}{tb:TS}(hp:PassesOwn (model X.prog X.w) X.A X.env X.xe)(hc:PT X c tc)(hb:PSs X body tb):PS X (.While c body [] pos) (Zas tc tb):=by
 intro pins s σ H D I h;obtain⟨W,⟨m0,w0⟩,turn⟩:=h;refine wpAny_While (codeAny_whileLoop (fun n s'=>∃ σ' H',Inv X pins σ' H' s'/\W n σ' H') ?_ m0 ⟨σ,H,I,w0⟩);rintro n s1 ⟨σ1,H1,I1,w1⟩;refine wpAny_passesOwn hp (thn (hc pins s1 σ1 H1 _ I1 (turn n σ1 H1 w1)) fun b s2 ⟨H2,I2,q2⟩=>?_);cases b with
 | true=>
  obtain⟨N,hN,q2⟩:=q2;rw[if_pos rfl];refine wpAny_passesOwn hp (thn (hb pins s2 σ1 H2 _ I2 q2) fun f s3 q3=>?_);cases f with
  | next=>
   obtain⟨σ3,H3,I3,n3⟩:=q3;obtain⟨m',hm,w3⟩:=hN σ3 H3 n3;exact⟨m',hm,σ3,H3,I3,w3⟩
  | cont=>
   obtain⟨σ3,H3,I3,n3⟩:=q3;obtain⟨m',hm,w3⟩:=hN σ3 H3 n3;exact⟨m',hm,σ3,H3,I3,w3⟩
  | brk=>exact q3
  | ret v=>exact q3
 | false=>
  rw[if_neg Y0g];exact wpAny_execs_nil ⟨σ1,H2,I2,q2⟩
end
structure It where
 go:Nat->Hp->Prop
 yld:Nat->Hp->V->Hp->Prop
 stop:Nat->Hp->Prop
def Yo (X:Cx)(pins:List (Addr×Obj))(H:Hp)(b:Addr):Prop:=
 H b=none/\b≠X.env.locals/\b∉X.fs/\(b∈X.ex\/X.s₀.heap.objs.size<=b)/\(∀ x c,X.env.cells.lookup x=some c->c≠b)/\∀ p∈X.pn++pins,p.1≠b
theorem Inv.fpOk {X:Cx}{pins:List (Addr×Obj)}{σ:St}{H H':Hp}{s:Shared}{b:Addr}(I:Inv X pins σ H s)(hb:s.heap.objs.size<=b)(hn:H' b=none):Yo X pins H' b:=by
 refine⟨hn,Y2e (Y0i I.lt hb),I.nofs hb,.inr (Y1c I.sz hb),fun x c e z=>?_,fun p hp z=>?_⟩
 ·obtain⟨v,q⟩:=I.cell x c e;exact absurd (Y0i q.lt (by rw[z];exact hb)) (Y1o _)
 ·exact absurd (Y0i (Y0a (I.pin p hp).1) (by rw[z];exact hb)) (Y1o _)
structure WO (P:Program)(w:World)(K:Y00)(tg:Expr)(J:It)(fp:List Addr)(it:Addr)(tn:Nat->Heap->Prop):Prop where
 mem:it∈fp
 obj:∀ i h,tn i h->∀ b∈fp,∃ o,h.get? b=some o/\∀ v,o.data≠.cell v
 keep:∀ i h h',tn i h->(∀ b∈fp,∀ o,h.get? b=some o->h'.get? b=some o)->tn i h'
 item:∀ (X:Cx),X.prog=P->X.w=w->X.K=K->X.calm=true->∀ (i:Nat) (pins:List (Addr×Obj)) (s:Shared) (σ:St) (H:Hp) (E:Value->Shared->Prop),Inv X pins σ H s->(∀ b∈fp,Yo X pins H b)->tn i s.heap->J.go i H->
  wpAny (model P w) X.A (pyNext (.ref it)) (fun r s1=>∃ u,r=some u/\
   wpAny (model P w) X.A (letOwnedTupleGo tg (.ref it) u) (fun _ s2=>∃ x H',Inv X pins σ H' s2/\ZI x u/\J.yld i H x H'/\tn (i+1) s2.heap/\∀ b∈fp,H' b=none) E s1) E s
 done:∀ (X:Cx),X.prog=P->X.w=w->X.K=K->X.calm=true->∀ (i:Nat) (pins:List (Addr×Obj)) (s:Shared) (σ:St) (H:Hp) (E:Value->Shared->Prop),Inv X pins σ H s->(∀ b∈fp,Yo X pins H b)->tn i s.heap->J.stop i H->
  wpAny (model P w) X.A (pyNext (.ref it)) (fun r s1=>r=none/\Inv X pins σ H s1) E s
 self:∀ (A:Around) (i:Nat) (s:Shared) (Q:Value->Shared->Prop) (E:Value->Shared->Prop),tn i s.heap->Q (.ref it) s->wpAny (model P w) A (pyIter (.ref it)) Q E s
noncomputable abbrev TI:=St->Hp->(It->Hp->Prop)->Prop
def PIE (X:Cx)(pins:List (Addr×Obj))(σ:St)(tg:Expr)(R:It->Hp->Prop)(itv:Value)(s2:Shared):Prop:=
 ∃ (it:Addr) (fp:List Addr) (tn:Nat->Heap->Prop) (J:It) (H':Hp),itv=.ref it/\Inv X pins σ H' s2/\WO X.prog X.w X.K tg J fp it tn/\tn 0 s2.heap/\(∀ b∈fp,Yo X pins H' b)/\R J H'
def PI (X:Cx)(tg iter:Expr)(wi:TI):Prop:=
 ∀ (pins:List (Addr×Obj)) (s:Shared) (σ:St) (H:Hp) (R:It->Hp->Prop),Inv X pins σ H s->wi σ H R->
  wpAny (model X.prog X.w) X.A (eval iter X.env) (fun v s1=>wpAny (model X.prog X.w) X.A (pyIter v) (PIE X pins σ tg R) X.xe s1) X.xe s
theorem Sr {M:Model}{A:Around}{E:Value->Shared->Prop}{s:Shared}{tg:Expr}{it:Addr}{u:Value}{o:Obj}{n:String}{vs:Array Value}{Q:Unit->Shared->Prop}(ho:s.heap.get? it=some o)(hc:o.cls=.type n)(hd:o.data=.fields vs)
  (hn:["enumerate","zip","dict_itemiterator","dict_reverseitemiterator","odict_iterator","itertools.zip_longest","itertools.pairwise"].contains n=false) (hQ:Q () s):wpAny M A (letOwnedTupleGo tg (.ref it) u) Q E s:=by
 unfold letOwnedTupleGo;cases tg<;>first
  | exact wpAny_pure hQ
  | (cases u<;>first
      | exact wpAny_pure hQ
      | (refine wpAny_bind (wpAny_load ho ?_);rw[hc,hd];show wpAny M A (if (["enumerate","zip","dict_itemiterator","dict_reverseitemiterator","odict_iterator","itertools.zip_longest","itertools.pairwise"].contains n&&vs[0]?==some (rawInt _))=true then _ else _) Q E s;rw[if_neg (by intro h;rw[hn,Bool.false_and]at h;cases h)];exact wpAny_pure hQ))
noncomputable def Itl (K:Y00)(a:Addr):It:=
 ⟨fun i H=>∃ xs x,SqL K H a xs/\xs[i]?=some x,fun i H x H'=>H'=H/\∀ xs,SqL K H a xs->xs[i]?=some x,fun i H=>∃ xs,SqL K H a xs/\xs.length<=i⟩
noncomputable def Itt (K:Y00)(a:Addr):It:=
 ⟨fun i H=>∃ xs x,SqT K H a xs/\xs[i]?=some x,fun i H x H'=>H'=H/\∀ xs,SqT K H a xs->xs[i]?=some x,fun i H=>∃ xs,SqT K H a xs/\xs.length<=i⟩
noncomputable def Itr (lo:Int)(n:Nat):It:=⟨fun i _=>i<n,fun i H x H'=>H'=H/\x=.int (lo+i),fun i _=>n<=i⟩
theorem ZaP {P:Program}{w:World}{K:Y00}{tg:Expr}(a it:Addr):WO P w K tg (Itl K a) [it] it (fun i h=>h.IsListIter it a i) where
 mem:=by simp
 obj:=fun i h st b hb=>by
  have e:b=it:=by simpa using hb
  subst e;obtain⟨o,e,c,d⟩:=st;exact⟨o,e,fun v z=>by rw[d]at z;cases z⟩
 keep:=fun i h h' st k=>st.at fun o e=>k it (by simp) o e
 item:=by
  intro X hP hw hK hc i pins s σ H E I hf st hg;subst hP hw hK;obtain⟨xs,x,hq,hx⟩:=hg;obtain⟨its,rv,p,hz⟩:=I.list hq;obtain⟨u,hu,ru⟩:=rv.get hx;obtain⟨f0,f1,f2,f3,f4,f5⟩:=hf it (by simp);refine wpAny_pyNext_list_item st p.isList (x:=u) (by simpa using hu) fun h' st' sb=>?_;have I1:Inv X pins σ H { s with heap:=h' }:=I.turned (t':=s.toks) (fun b o hb e=>(sb.2 b hb).trans e) f0 f1 f3 f4 f5;obtain⟨o,e,c,d⟩:=id st';exact⟨u,rfl,Sr (s:={ s with heap:=h' }) e c d (by decide) ⟨x,H,I1,ru,⟨rfl,fun ys hy=>by rw[I.list_inj hy hq];exact hx⟩,st',fun b hb=>(hf b hb).1⟩⟩
 done:=by
  intro X hP hw hK hc i pins s σ H E I hf st hg;subst hP hw hK;obtain⟨xs,hq,hx⟩:=hg;obtain⟨its,rv,p,hz⟩:=I.list hq;obtain⟨f0,f1,f2,f3,f4,f5⟩:=hf it (by simp);have hl:=rv.length;exact wpAny_pyNext_list_end (I.ok.hd hc) st p.isList (by simp;omega) fun h' eb=>⟨rfl,I.turned (t':=s.toks) (fun b o hb e=>eb b o hb e) f0 f1 f3 f4 f5⟩
 self:=fun _ _ _ _ _ st h=>wpAny_pyIter_listiter st h
theorem Z9T {P:Program}{w:World}{K:Y00}{tg:Expr}(a it:Addr):WO P w K tg (Itt K a) [it] it (fun i h=>h.IsTupleIter it a i) where
 mem:=by simp
 obj:=fun i h st b hb=>by
  have e:b=it:=by simpa using hb
  subst e;obtain⟨o,e,c,d⟩:=st;exact⟨o,e,fun v z=>by rw[d]at z;cases z⟩
 keep:=fun i h h' st k=>st.at fun o e=>k it (by simp) o e
 item:=by
  intro X hP hw hK hc i pins s σ H E I hf st hg;subst hP hw hK;obtain⟨xs,x,hq,hx⟩:=hg;obtain⟨its,rv,p,hz⟩:=I.tuple hq;obtain⟨u,hu,ru⟩:=rv.get hx;obtain⟨f0,f1,f2,f3,f4,f5⟩:=hf it (by simp);refine wpAny_pyNext_tuple_item st (show s.heap.IsTuple a its.toArray from p) (x:=u) (by simpa using hu) fun h' st' sb=>?_;have I1:Inv X pins σ H { s with heap:=h' }:=I.turned (t':=s.toks) (fun b o hb e=>(sb.2 b hb).trans e) f0 f1 f3 f4 f5;obtain⟨o,e,c,d⟩:=id st';exact⟨u,rfl,Sr (s:={ s with heap:=h' }) e c d (by decide) ⟨x,H,I1,ru,⟨rfl,fun ys hy=>by rw[I.tuple_inj hy hq];exact hx⟩,st',fun b hb=>(hf b hb).1⟩⟩
 done:=by
  intro X hP hw hK hc i pins s σ H E I hf st hg;subst hP hw hK;obtain⟨xs,hq,hx⟩:=hg;obtain⟨its,rv,p,hz⟩:=I.tuple hq;obtain⟨f0,f1,f2,f3,f4,f5⟩:=hf it (by simp);have hl:=rv.length;exact wpAny_pyNext_tuple_end (I.ok.hd hc) st (show s.heap.IsTuple a its.toArray from p) (by simp;omega) fun h' eb=>⟨rfl,I.turned (t':=s.toks) (fun b o hb e=>eb b o hb e) f0 f1 f3 f4 f5⟩
 self:=fun _ _ _ _ _ st h=>wpAny_pyIter_tupleiter st h
theorem Z9j {P:Program}{w:World}{K:Y00}{tg:Expr}(it:Addr)(lo:Int)(n:Nat):WO P w K tg (Itr lo n) [it] it (fun i h=>IsRangeIter h it (lo+(i:Nat)*1) ((n:Int)-(i:Nat)) 1) where
 mem:=by simp
 obj:=fun i h st b hb=>by
  have e:b=it:=by simpa using hb
  subst e;exact⟨_,st,fun v z=>by
   have z':Data.fields _=Data.cell v:=z
   cases z'⟩
 keep:=fun i h h' st k=>k it (by simp) _ st
 item:=by
  intro X hP hw hK hc i pins s σ H E I hf st hg;subst hP hw hK;obtain⟨f0,f1,f2,f3,f4,f5⟩:=hf it (by simp);have W:=Walks.range (prog:=X.prog) (w:=X.w) (I.ok.hd hc) it lo 1 n;refine W.item i s _ _ hg st fun v h' tk hv st' kk=>?_;obtain⟨t,rfl⟩:=hv;have I1:Inv X pins σ H { s with heap:=h',toks:=tk }:=I.turned (fun b o hb e=>kk b o (by simpa using hb) e) f0 f1 f3 f4 f5;refine⟨_,rfl,Sr (s:={ s with heap:=h',toks:=tk }) (n:="range_iterator") st' rfl rfl (by decide) ⟨.int (lo+i),H,I1,⟨t,?_⟩,⟨rfl,rfl⟩,st',fun b hb=>(hf b hb).1⟩⟩;rw[Int.mul_one]
 done:=by
  intro X hP hw hK hc i pins s σ H E I hf st hg;subst hP hw hK;obtain⟨f0,f1,f2,f3,f4,f5⟩:=hf it (by simp);exact wpAny_pyNext_range_end (I.ok.hd hc) st (by have:n<=i:=hg;omega) fun h' eb=>⟨rfl,I.turned (t':=s.toks) (fun b o hb e=>eb b o hb e) f0 f1 f3 f4 f5⟩
 self:=fun _ _ _ _ _ st h=>wpAny_pyIter_rangeiter st h
section
variable {X:Cx}{tg:Expr}
noncomputable def Yr (K:Y00)(tl:TE):TI:=fun σ H R=>tl σ H fun x H1=>∃ a,x=.ref a/\(∃ xs,SqL K H1 a xs)/\R (Itl K a) H1
noncomputable def WS (K:Y00)(tl:TE):TI:=fun σ H R=>tl σ H fun x H1=>∃ a,x=.ref a/\(∃ xs,SqT K H1 a xs)/\R (Itt K a) H1
theorem Y5 {l:Expr}{tl:TE}(hl:PE X l tl):PI X tg l (Yr X.K tl):=by
 intro pins s σ H R I h;refine thn (hl pins s σ H _ I h) fun v s1 ⟨x,H1,I1,r1,q1⟩=>?_;obtain⟨a,e,⟨xs,hq⟩,q⟩:=q1;subst e;cases r1;obtain⟨its,rv,p,hz⟩:=I1.list hq;refine wpAny_pyIter_list p.isList ?_;refine⟨s1.heap.objs.size,[s1.heap.objs.size],_,_,H1,rfl,I1.kept (t':=s1.toks) fun b o e=>Y02 _ e,ZaP a _,⟨_,Y06 _ rfl,rfl,rfl⟩,fun b hb=>?_,q⟩;have e:b=s1.heap.objs.size:=by simpa using hb
 subst e;exact I1.fpOk (Y04 _) (I1.hok.fresh (Y04 _))
theorem XQ {l:Expr}{tl:TE}(hl:PE X l tl):PI X tg l (WS X.K tl):=by
 intro pins s σ H R I h;refine thn (hl pins s σ H _ I h) fun v s1 ⟨x,H1,I1,r1,q1⟩=>?_;obtain⟨a,e,⟨xs,hq⟩,q⟩:=q1;subst e;cases r1;obtain⟨its,rv,p,hz⟩:=I1.tuple hq;refine wpAny_pyIter_tuple (show s1.heap.IsTuple a its.toArray from p) ?_;refine⟨s1.heap.objs.size,[s1.heap.objs.size],_,_,H1,rfl,I1.kept (t':=s1.toks) fun b o e=>Y02 _ e,Z9T a _,⟨_,Y06 _ rfl,rfl,rfl⟩,fun b hb=>?_,q⟩;have e:b=s1.heap.objs.size:=by simpa using hb
 subst e;exact I1.fpOk (Y04 _) (I1.hok.fresh (Y04 _))
theorem ZcK {pins:List (Addr×Obj)}{σ:St}{H:Hp}{s:Shared}{R:It->Hp->Prop}{E:Value->Shared->Prop}{lo hi:Int}{t u v:Tok}{tk:Nat}(I:Inv X pins σ H s)(h1:-(2^62)<=lo)(h2:lo<2^62)(h3:-(2^62)<=hi)(h4:hi<2^62)
  (q:R (Itr lo (hi-lo).toNat) H):wpAny (model X.prog X.w) X.A (pyIter (.ref s.heap.objs.size)) (PIE X pins σ tg R) E { s with heap:=s.heap.push { cls:=.type "range",data:=.fields #[.int lo t,.int hi u,.int 1 v] },toks:=tk }:=by
 refine wpAny_pyIter_range (IsRange.new ..) (small_one h1 h2 h3 h4) ?_;have I1:Inv X pins σ H { s with heap:=s.heap.push { cls:=.type "range",data:=.fields #[.int lo t,.int hi u,.int 1 v] },toks:=tk }:=I.kept fun b o e=>Y02 _ e;refine⟨(s.heap.push { cls:=.type "range",data:=.fields #[.int lo t,.int hi u,.int 1 v] }).objs.size,[(s.heap.push { cls:=.type "range",data:=.fields #[.int lo t,.int hi u,.int 1 v] }).objs.size],_,_,H,rfl,
  I1.kept (t':=tk) fun b o e=>Y02 _ e,Z9j _ lo (hi-lo).toNat,?_,fun b hb=>?_,q⟩
 ·have e1:lo+((0:Nat):Int)*1=lo:=by simp
  have e2:(((hi-lo).toNat:Nat):Int)-((0:Nat):Int)=Builtin.Range.rangeSize lo hi 1:=by rw[rangeSize_one];split<;>omega
  show IsRangeIter _ _ (lo+((0:Nat):Int)*1) ((((hi-lo).toNat:Nat):Int)-((0:Nat):Int)) 1;rw[e1,e2];exact Y06 _ rfl
 ·have e:b=(s.heap.push { cls:=.type "range",data:=.fields #[.int lo t,.int hi u,.int 1 v] }).objs.size:=by simpa using hb
  subst e;exact I1.fpOk (Y04 _) (I1.hok.fresh (Y04 _))
noncomputable def SB (ta:TA):TI:=fun σ H R=>ta σ H fun vs H1=>∃ j:Int,vs=[.int j]/\-(2^62)<=j/\j<2^62/\R (Itr 0 j.toNat) H1
theorem X9 {a:Expr}{ta:TA}{p pos:Pos}(hg:Gl X "range")(hm:X.mg "range"=none)(ha:PA X [a] ta)(hs:starEach [a] X.env=[(false,eval a X.env)]:=by rfl):PI X tg (.Call (.Name "range" p) [a] [] pos) (SB ta):=by
 intro pins s σ H R I h;refine Call_ (Wo I hg hm boot_range (PyProof.Rows.callWith_type1 (thn (ha pos pins s σ H _ I h) fun us s1 ⟨vs,H1,I1,r1,q1⟩=>?_) hs rfl));obtain⟨j,e,q1,q2,q⟩:=q1;subst e;cases r1 with
 | cons r rr=>
  cases rr;obtain⟨t,rfl⟩:=r;exact call_range_1 (ZcK I1 (by omega) (by omega) q1 q2 (by simpa using q))
noncomputable def tFor (wi:TI)(g:TG)(tb:TS):TS:=fun D σ H=>wi σ H fun J H1=>∃ W:Nat->Nat->St->Hp->Prop,(∃ m,W 0 m σ H1)/\∀ i m σ H,W i m σ H->
 (J.stop i H/\D.nx σ H)\/(J.go i H/\∃ N:St->Hp->Prop,(∀ σ' H',N σ' H'->∃ m',m'<m/\W (i+1) m' σ' H')/\∀ x H',J.yld i H x H'->g x σ H' fun σ2 H2=>tb { D with nx:=N,ct:=N,bk:=D.nx } σ2 H2)
noncomputable def SV (fp:List Addr)(h:Heap):List (Addr×Obj):=fp.filterMap fun b=>(h.get? b).map fun o=>(b,o)
theorem Yn {fp:List Addr}{h:Heap}{b:Addr}{o:Obj}(hb:b∈fp)(e:h.get? b=some o):(b,o)∈SV fp h:=Y40.mpr ⟨b,hb,by rw[e];rfl⟩
theorem Zc9 {fp:List Addr}{h:Heap}{p:Addr×Obj}(hp:p∈SV fp h):p.1∈fp/\h.get? p.1=some p.2:=by
 obtain⟨b,hb,e⟩:=Y40.mp hp;cases q:h.get? b with
 | none=>rw[q]at e;cases e
 | some o=>
  rw[q]at e;have e':(b,o)=p:=Option.some.inj e;subst e';exact⟨hb,q⟩
theorem Inv.pinned {pins:List (Addr×Obj)}{σ:St}{H:Hp}{s:Shared}{fp:List Addr}(I:Inv X pins σ H s)(hf:∀ b∈fp,Yo X pins H b)(ho:∀ b∈fp,∃ o,s.heap.get? b=some o/\∀ v,o.data≠.cell v):Inv X (pins++SV fp s.heap) σ H s:=
 I.pins_of fun p hp=>(Y1d.mp hp).elim (fun z=>I.pin p (Y0b _ z)) fun z=>by
  obtain⟨hb,e⟩:=Zc9 z;obtain⟨f0,f1,f2,_⟩:=hf p.1 hb;obtain⟨o,e',d⟩:=ho p.1 hb;rw[e]at e';cases e';exact⟨e,f0,f1,f2,d⟩
theorem Inv.unpinned {pins pl:List (Addr×Obj)}{σ:St}{H:Hp}{s:Shared}(I:Inv X (pins++pl) σ H s):Inv X pins σ H s:=I.pins_of fun p hp=>I.pin p (Y0b _ (Y1x _ hp))
theorem YQ {iter:Expr}{body:List Stmt}{wi:TI}{g:TG}{tb:TS}{pos:Pos}(hp:PassesOwn (model X.prog X.w) X.A X.env X.xe)(hc:X.calm=true)(hi:PI X tg iter wi)(hg:PG X tg g)(hb:PSs X body tb)
  (hs:∀ x,foldedSetIterable iter X.env x=pure x:=by intro _;rfl):PS X (.For tg iter body [] pos) (tFor wi g tb):=by
 intro pins s σ H D I h;refine wpAny_For (thn (hi pins s σ H _ I h) fun v s1 h1=>thn h1 fun itv s2 h2=>?_) hs;obtain⟨it,fp,tn,J,H2,e,I2,T,st2,f2,W,⟨m0,w0⟩,turn⟩:=h2;subst e;have stat:∀ {H':Hp},(∀ b∈fp,H' b=none)->∀ b∈fp,Yo X pins H' b:=fun hn b hb=>⟨hn b hb,(f2 b hb).2⟩;refine codeAny_forLoop_any (fun n s'=>∃ i σ' H',Inv X pins σ' H' s'/\tn i s'.heap/\(∀ b∈fp,H' b=none)/\W i n σ' H') ?_ m0 ⟨0,σ,H2,I2,st2,fun b hb=>(f2 b hb).1,w0⟩;rintro n s3 ⟨i,σ3,H3,I3,st3,fr3,w3⟩;rcases turn i n σ3 H3 w3 with ⟨stop,qn⟩|⟨go,N,hN,step⟩
 ·refine wpAny_passesOwn hp (thn (T.done X rfl rfl rfl hc i pins s3 σ3 H3 X.xe I3 (stat fr3) st3 stop) fun r s4 ⟨hr,I4⟩=>?_);subst hr;exact wpAny_execs_nil ⟨σ3,H3,I4,qn⟩
 ·refine wpAny_passesOwn hp (thn (T.item X rfl rfl rfl hc i pins s3 σ3 H3 X.xe I3 (stat fr3) st3 go) fun r s4 ⟨u,hr,h4⟩=>?_);subst hr;refine wpAny_passesOwn hp (thn h4 fun _ s5 ⟨x,H5,I5,r5,y5,st5,fr5⟩=>?_);have I5':=I5.pinned (stat fr5) (T.obj _ _ st5);refine wpAny_passesOwn hp (thn (hg _ s5 σ3 H5 x u _ I5' r5 (step x H5 y5)) fun _ s6 ⟨σ6,H6,I6,q6⟩=>?_);refine wpAny_passesOwn hp (thn (hb _ s6 σ6 H6 _ I6 q6) fun f s7 q7=>?_);have again:∀ {σ7:St} {H7:Hp},Inv X (pins++SV fp s5.heap) σ7 H7 s7->N σ7 H7->∃ m,m<n/\∃ i σ' H',Inv X pins σ' H' s7/\tn i s7.heap/\(∀ b∈fp,H' b=none)/\W i m σ' H':=fun {σ7 H7} I7 n7=>by
   obtain⟨m',hm,w7⟩:=hN σ7 H7 n7;refine⟨m',hm,i+1,σ7,H7,I7.unpinned,T.keep _ _ _ st5 fun b hb o e=>(I7.pin (b,o) (Y0b _ (Y0b _ (Yn hb e)))).1,fun b hb=>?_,w7⟩;obtain⟨o,e,d⟩:=T.obj _ _ st5 b hb;exact (I7.pin (b,o) (Y0b _ (Y0b _ (Yn hb e)))).2.1
  cases f with
  | next=>obtain⟨σ7,H7,I7,n7⟩:=q7;exact again I7 n7
  | cont=>obtain⟨σ7,H7,I7,n7⟩:=q7;exact again I7 n7
  | brk=>obtain⟨σ7,H7,I7,q7⟩:=q7;exact⟨σ7,H7,I7.unpinned,q7⟩
  | ret v=>obtain⟨x7,σ7,H7,I7,r7,q7⟩:=q7;exact⟨x7,σ7,H7,I7.unpinned,r7,q7⟩
end
theorem VW {K:Y00}{a:Addr}{xs:List V}{g:TG}{tb:TS}{D:YZ}{σ:St}{H:Hp}(Pv:Nat->St->Hp->Prop)(h0:Pv 0 σ H)(hl:∀ i σ H,i<=xs.length->Pv i σ H->SqL K H a xs)
  (hs:∀ i x σ H,xs[i]?=some x->Pv i σ H->g x σ H fun σ2 H2=>tb { D with nx:=Pv (i+1),ct:=Pv (i+1),bk:=D.nx } σ2 H2) (hd:∀ σ H,Pv xs.length σ H->D.nx σ H) :
  ∃ W:Nat->Nat->St->Hp->Prop,(∃ m,W 0 m σ H)/\∀ i m σ H,W i m σ H->
   ((Itl K a).stop i H/\D.nx σ H)\/((Itl K a).go i H/\∃ N:St->Hp->Prop,(∀ σ' H',N σ' H'->∃ m',m'<m/\W (i+1) m' σ' H')/\∀ x H',(Itl K a).yld i H x H'->g x σ H' fun σ2 H2=>tb { D with nx:=N,ct:=N,bk:=D.nx } σ2 H2):=by
 refine⟨fun i m σ H=>m=xs.length-i/\i<=xs.length/\Pv i σ H,⟨xs.length,by simp,Y0y _,h0⟩,?_⟩;rintro i m σ H ⟨rfl,hi,p⟩;have q:=hl i σ H hi p
 by_cases hlt:i<xs.length
 ·refine .inr ⟨⟨xs,xs[i],q,by simp[hlt]⟩,Pv (i+1),fun σ' H' p'=>⟨xs.length-(i+1),by omega,rfl,hlt,p'⟩,fun x H' y=>?_⟩;obtain⟨e,y⟩:=y;subst e;exact hs i x σ _ (y xs q) p
 ·have e:i=xs.length:=by omega
  subst e;exact .inl ⟨⟨xs,q,Y04 _⟩,hd σ H p⟩
theorem Za4 {K:Y00}{a:Addr}{xs:List V}{g:TG}{tb:TS}{D:YZ}{σ:St}{H:Hp}(Pv:Nat->St->Hp->Prop)(h0:Pv 0 σ H)(hl:∀ i σ H,i<=xs.length->Pv i σ H->SqT K H a xs)
  (hs:∀ i x σ H,xs[i]?=some x->Pv i σ H->g x σ H fun σ2 H2=>tb { D with nx:=Pv (i+1),ct:=Pv (i+1),bk:=D.nx } σ2 H2) (hd:∀ σ H,Pv xs.length σ H->D.nx σ H) :
  ∃ W:Nat->Nat->St->Hp->Prop,(∃ m,W 0 m σ H)/\∀ i m σ H,W i m σ H->
   ((Itt K a).stop i H/\D.nx σ H)\/((Itt K a).go i H/\∃ N:St->Hp->Prop,(∀ σ' H',N σ' H'->∃ m',m'<m/\W (i+1) m' σ' H')/\∀ x H',(Itt K a).yld i H x H'->g x σ H' fun σ2 H2=>tb { D with nx:=N,ct:=N,bk:=D.nx } σ2 H2):=by
 refine⟨fun i m σ H=>m=xs.length-i/\i<=xs.length/\Pv i σ H,⟨xs.length,by simp,Y0y _,h0⟩,?_⟩;rintro i m σ H ⟨rfl,hi,p⟩;have q:=hl i σ H hi p
 by_cases hlt:i<xs.length
 ·refine .inr ⟨⟨xs,xs[i],q,by simp[hlt]⟩,Pv (i+1),fun σ' H' p'=>⟨xs.length-(i+1),by omega,rfl,hlt,p'⟩,fun x H' y=>?_⟩;obtain⟨e,y⟩:=y;subst e;exact hs i x σ _ (y xs q) p
 ·have e:i=xs.length:=by omega
  subst e;exact .inl ⟨⟨xs,q,Y04 _⟩,hd σ H p⟩
theorem WE {lo:Int}{n:Nat}{g:TG}{tb:TS}{D:YZ}{σ:St}{H:Hp}(Pv:Nat->St->Hp->Prop)(h0:Pv 0 σ H)
  (hs:∀ i σ H,i<n->Pv i σ H->g (.int (lo+i)) σ H fun σ2 H2=>tb { D with nx:=Pv (i+1),ct:=Pv (i+1),bk:=D.nx } σ2 H2) (hd:∀ σ H,Pv n σ H->D.nx σ H) :
  ∃ W:Nat->Nat->St->Hp->Prop,(∃ m,W 0 m σ H)/\∀ i m σ H,W i m σ H->
   ((Itr lo n).stop i H/\D.nx σ H)\/((Itr lo n).go i H/\∃ N:St->Hp->Prop,(∀ σ' H',N σ' H'->∃ m',m'<m/\W (i+1) m' σ' H')/\∀ x H',(Itr lo n).yld i H x H'->g x σ H' fun σ2 H2=>tb { D with nx:=N,ct:=N,bk:=D.nx } σ2 H2):=by
 refine⟨fun i m σ H=>m=n-i/\i<=n/\Pv i σ H,⟨n,by simp,Y0y _,h0⟩,?_⟩;rintro i m σ H ⟨rfl,hi,p⟩
 by_cases hlt:i<n
 ·refine .inr ⟨hlt,Pv (i+1),fun σ' H' p'=>⟨n-(i+1),by omega,rfl,hlt,p'⟩,fun x H' y=>?_⟩;obtain⟨e,y⟩:=y;subst e y;exact hs i σ _ hlt p
 ·have e:i=n:=by omega
  subst e;exact .inl ⟨Y04 _,hd σ H p⟩
theorem WA {c:TT}{tb:TS}{D:YZ}{σ:St}{H:Hp}(Pv:St->Hp->Prop)(μ:St->Hp->Nat)(h0:Pv σ H)
  (hs:∀ σ H,Pv σ H->c σ H fun b H1=>if b=true then tb { D with nx:=fun σ' H'=>Pv σ' H'/\μ σ' H'<μ σ H,ct:=fun σ' H'=>Pv σ' H'/\μ σ' H'<μ σ H,bk:=D.nx } σ H1 else D.nx σ H1)
  (mono:∀ σ H Q Q',(∀ b H1,Q b H1->Q' b H1)->c σ H Q->c σ H Q'):Zas c tb D σ H:=by
 refine⟨fun m σ H=>m=μ σ H/\Pv σ H,⟨_,rfl,h0⟩,?_⟩;rintro m σ H ⟨rfl,p⟩;refine mono σ H _ _ (fun b H1 q=>?_) (hs σ H p);cases b with
 | true=>exact⟨_,fun σ' H' ⟨p',l⟩=>⟨_,l,rfl,p'⟩,q⟩
 | false=>exact q
noncomputable abbrev R2:=V->V->Hp->VK->Prop
def OpR (X:Cx)(f:Value->Value->Sem Value)(r:R2):Prop:=
 ∀ (pins:List (Addr×Obj)) (s:Shared) (σ:St) (H:Hp) (x y:V) (v u:Value) (Q:VK),Inv X pins σ H s->ZI x v->ZI y u->r x y H Q->
  wpAny (model X.prog X.w) X.A (f v u) (EP X pins σ Q) X.xe s
def UnR (X:Cx)(f:Value->Sem Value)(r:V->Hp->VK->Prop):Prop:=
 ∀ (pins:List (Addr×Obj)) (s:Shared) (σ:St) (H:Hp) (x:V) (v:Value) (Q:VK),Inv X pins σ H s->ZI x v->r x H Q->
  wpAny (model X.prog X.w) X.A (f v) (EP X pins σ Q) X.xe s
def YM (X:Cx)(f:Value)(r:List V->Hp->VK->Prop):Prop:=
 ∀ (pins:List (Addr×Obj)) (s:Shared) (σ:St) (H:Hp) (xs:List V) (us:List Value) (Q:VK),Inv X pins σ H s->ZT xs us->r xs H Q->
  wpAny (model X.prog X.w) X.A (call f us) (EP X pins σ Q) X.xe s
noncomputable def tOp (r:R2)(ta tb:TE):TE:=fun σ H Q=>ta σ H fun x H1=>tb σ H1 fun y H2=>r x y H2 Q
def tUn (r:V->Hp->VK->Prop)(ta:TE):TE:=fun σ H Q=>ta σ H fun x H1=>r x H1 Q
def rI (C:Int->Int->Prop)(g:Int->Int->V):R2:=fun x y H Q=>∃ i j,x=.int i/\y=.int j/\C i j/\Q (g i j) H
noncomputable def rI0 (g:Int->Int->V):R2:=fun x y H Q=>∃ i j,x=.int i/\y=.int j/\Q (g i j) H
def rU (g:Int->V):V->Hp->VK->Prop:=fun x H Q=>∃ i,x=.int i/\Q (g i) H
section
variable {X:Cx}{a b c:Expr}{ta tb tc:TE}{pos:Pos}
theorem Zip (ha:PE X a ta)(hb:PE X b tb){pins:List (Addr×Obj)}{s:Shared}{σ:St}{H:Hp}{R:V->V->Hp->Prop}(I:Inv X pins σ H s)
  (h:ta σ H fun x H1=>tb σ H1 fun y H2=>R x y H2) {Q:Value->Shared->Prop} {f:Value->Value->Sem Value}
  (hf:∀ v u s2 x y H2,Inv X pins σ H2 s2->ZI x v->ZI y u->R x y H2->wpAny (model X.prog X.w) X.A (f v u) Q X.xe s2) :
  wpAny (model X.prog X.w) X.A (eval a X.env) (fun v s₁=>wpAny (model X.prog X.w) X.A (eval b X.env) (fun u s₂=>wpAny (model X.prog X.w) X.A (f v u) Q X.xe s₂) X.xe s₁) X.xe s:=by
 refine thn (ha pins s σ H _ I h) fun v s1 ⟨x,H1,I1,r1,q1⟩=>?_;refine thn (hb pins s1 σ H1 _ I1 q1) fun u s2 ⟨y,H2,I2,r2,q2⟩=>?_;exact hf v u s2 x y H2 I2 r1 r2 q2
theorem ZJ {op:Operator}{r:R2}(ho:OpR X (binaryOp op) r)(ha:PE X a ta)(hb:PE X b tb):PE X (.BinOp a op b pos) (tOp r ta tb):=by
 intro pins s σ H Q I h;exact wpAny_BinOp (Zip ha hb I h fun v u s2 x y H2 I2 rx ry q=>ho pins s2 σ H2 x y v u Q I2 rx ry q)
theorem Ya {op:UnaryOp}{r:V->Hp->VK->Prop}(ho:UnR X (unaryOp op) r)(ha:PE X a ta):PE X (.UnaryOp op a pos) (tUn r ta):=by
 intro pins s σ H Q I h;exact UnaryOp_ (thn (ha pins s σ H _ I h) fun v s1 ⟨x,H1,I1,r1,q1⟩=>ho pins s1 σ H1 x v Q I1 r1 q1)
theorem opI {f:Value->Value->Sem Value}{C:Int->Int->Prop}{g:Int->Int->Int}
  (rule:∀ (i j:Int) (t u:Tok) (s:Shared) (Q:Value->Shared->Prop) (E:Value->Shared->Prop),C i j->Q (.int (g i j) s.toks) { s with toks:=s.toks+1 }->wpAny (model X.prog X.w) X.A (f (.int i t) (.int j u)) Q E s) :
  OpR X f (rI C fun i j=>.int (g i j)):=by
 intro pins s σ H x y v u Q I rx ry h;obtain⟨i,j,rfl,rfl,hc,q⟩:=h;obtain⟨t,rfl⟩:=rx;obtain⟨t',rfl⟩:=ry;exact rule i j t t' s _ _ hc ⟨.int (g i j),H,I.tok _,⟨_,rfl⟩,q⟩
theorem opI0 {f:Value->Value->Sem Value}{g:Int->Int->Int}
  (rule:∀ (i j:Int) (t u:Tok) (s:Shared) (Q:Value->Shared->Prop) (E:Value->Shared->Prop),Q (.int (g i j) s.toks) { s with toks:=s.toks+1 }->wpAny (model X.prog X.w) X.A (f (.int i t) (.int j u)) Q E s) :
  OpR X f (rI0 fun i j=>.int (g i j)):=by
 intro pins s σ H x y v u Q I rx ry h;obtain⟨i,j,rfl,rfl,q⟩:=h;obtain⟨t,rfl⟩:=rx;obtain⟨t',rfl⟩:=ry;exact rule i j t t' s _ _ ⟨.int (g i j),H,I.tok _,⟨_,rfl⟩,q⟩
theorem Zim {f:Value->Value->Sem Value}{g:Int->Int->Bool}
  (rule:∀ (i j:Int) (t u:Tok) (s:Shared) (Q:Value->Shared->Prop) (E:Value->Shared->Prop),Q (.bool (g i j)) s->wpAny (model X.prog X.w) X.A (f (.int i t) (.int j u)) Q E s) :
  OpR X f (rI0 fun i j=>.bl (g i j)):=by
 intro pins s σ H x y v u Q I rx ry h;obtain⟨i,j,rfl,rfl,q⟩:=h;obtain⟨t,rfl⟩:=rx;obtain⟨t',rfl⟩:=ry;exact rule i j t t' s _ _ ⟨.bl (g i j),H,I,rfl,q⟩
def CDiv (i j:Int):Prop:=0<j/\j<1073741824
def Zjj (i j:Int):Prop:=(-(2^64)<i/\i<2^64)\/(-(2^64)<j/\j<2^64)
theorem Zjj.ok {i j:Int}(h:Zjj i j):IntMulOk i j:=by
 rcases h with ⟨h1,h2⟩|⟨h1,h2⟩
 ·exact .of_left (intBits_le_64 h1 h2)
 ·exact .of_right (intBits_le_64 h1 h2)
theorem Xf:OpR X (binaryOp .Add) (rI0 fun i j=>.int (i+j)):=opI0 fun _ _ _ _ _ _ _ q=>add_int q
theorem Wt:OpR X (binaryOp .Sub) (rI0 fun i j=>.int (i-j)):=opI0 fun _ _ _ _ _ _ _ q=>sub_int q
theorem Zb6:OpR X (binaryOp .Mult) (rI Zjj fun i j=>.int (i*j)):=opI fun _ _ _ _ _ _ _ hc q=>mul_int q hc.ok
theorem XZ:OpR X (binaryOp .FloorDiv) (rI CDiv fun i j=>.int (i/j)):=opI fun i j _ _ _ _ _ hc q=>by
 have h1:(0:Int)<j:=hc.1;have h2:j<1073741824:=hc.2;exact floordiv_int (by omega) (by rw[Int.fdiv_eq_ediv_of_nonneg i (by omega)];exact q) (.inl (PyProof.noPylong_small (by omega)))
theorem YF:OpR X (binaryOp .Mod) (rI (fun _ j=>0<j) fun i j=>.int (i%j)):=opI fun i j _ _ _ _ _ hc q=>by
 have h1:(0:Int)<j:=hc;exact mod_int' (by omega) (by rw[Int.fmod_eq_emod_of_nonneg i (by omega)];exact q)
theorem unI {f:Value->Sem Value}{g:Int->Int}
  (rule:∀ (i:Int) (t:Tok) (s:Shared) (Q:Value->Shared->Prop) (E:Value->Shared->Prop),Q (.int (g i) s.toks) { s with toks:=s.toks+1 }->wpAny (model X.prog X.w) X.A (f (.int i t)) Q E s) :
  UnR X f (rU fun i=>.int (g i)):=by
 intro pins s σ H x v Q I rx h;obtain⟨i,rfl,q⟩:=h;obtain⟨t,rfl⟩:=rx;exact rule i t s _ _ ⟨.int (g i),H,I.tok _,⟨_,rfl⟩,q⟩
theorem Yc:UnR X (unaryOp .USub) (rU fun i=>.int (-i)):=unI fun _ _ _ _ _ q=>neg_int q
end
noncomputable def Sk:V->V->Bool
 | .non,.non=>true | .non,.int _=>true | .int _,.non=>true | .non,.bl _=>true | .bl _,.non=>true | .non,.str _=>true | .str _,.non=>true
 | .int _,.int _=>true | .bl _,.bl _=>true | .str _,.str _=>true | .byt _,.byt _=>true
 | .int _,.str _=>true | .str _,.int _=>true | .bl _,.str _=>true | .str _,.bl _=>true
 | _,_=>false
noncomputable def rEq:R2:=fun x y H Q=>Sk x y=true/\Q (.bl (decide (x=y))) H
noncomputable def rNe:R2:=fun x y H Q=>Sk x y=true/\Q (.bl (!decide (x=y))) H
theorem Zb0 {i j:Int}:decide (V.int i=V.int j)=(i==j):=by
 rw[Y2j];simp
theorem Ze3 {i j:Bool}:decide (V.bl i=V.bl j)=(i==j):=by
 rw[Y2j];simp
theorem Zcf {i j:Str}:decide (V.str i=V.str j)=(i==j):=by
 rw[Y2j];simp
theorem ZbT {i j:Array UInt8}:decide (V.byt i=V.byt j)=(i.toList==j.toList):=by
 rw[Y2j];cases i;cases j;simp
section
variable {X:Cx}{a b c:Expr}{ta tb tc:TE}{pos:Pos}
theorem Zf {pins:List (Addr×Obj)}{σ:St}{H:Hp}{s:Shared}{Q:VK}{k k':Bool}(I:Inv X pins σ H s)(q:Q (.bl k) H)(e:k=k'):EP X pins σ Q (.bool k') s:=by
 subst e;exact⟨.bl k,H,I,rfl,q⟩
theorem Ze:OpR X (compareOp .Eq) rEq:=by
 intro pins s σ H x y v u Q I rx ry h;obtain⟨hs,q⟩:=h;cases x with
 | non=>
  cases rx;cases y with
  | non=>cases ry;exact PySem.EqNone.eq_none_none (Zf I q (by simp))
  | bl j=>cases ry;exact PySem.EqNone.eq_none_bool (Zf I q (by simp))
  | int j=>obtain⟨t',rfl⟩:=ry;exact PySem.EqNone.eq_none_int (Zf I q (by simp))
  | str j=>obtain⟨t',rfl⟩:=ry;exact PySem.EqNone.eq_none_str (Zf I q (by simp))
  | _=>exact absurd (show false=true from hs) Y0g
 | bl i=>
  cases rx;cases y with
  | non=>cases ry;exact PySem.EqNone.eq_bool_none (Zf I q (by simp))
  | bl j=>cases ry;exact eq_bool (Zf I q Ze3)
  | str j=>obtain⟨t',rfl⟩:=ry;exact PySem.EqMixed.eq_bool_str (Zf I q (by simp))
  | _=>exact absurd (show false=true from hs) Y0g
 | int i=>
  obtain⟨t,rfl⟩:=rx;cases y with
  | non=>cases ry;exact PySem.EqNone.eq_int_none (Zf I q (by simp))
  | int j=>obtain⟨t',rfl⟩:=ry;exact eq_int (Zf I q Zb0)
  | str j=>obtain⟨t',rfl⟩:=ry;exact PySem.EqMixed.eq_int_str (Zf I q (by simp))
  | _=>exact absurd (show false=true from hs) Y0g
 | str i=>
  obtain⟨t,rfl⟩:=rx;cases y with
  | non=>cases ry;exact PySem.EqNone.eq_str_none (Zf I q (by simp))
  | bl j=>cases ry;exact PySem.EqMixed.eq_str_bool (Zf I q (by simp))
  | int j=>obtain⟨t',rfl⟩:=ry;exact PySem.EqMixed.eq_str_int (Zf I q (by simp))
  | str j=>obtain⟨t',rfl⟩:=ry;exact eq_str (Zf I q Zcf)
  | _=>exact absurd (show false=true from hs) Y0g
 | byt i=>
  obtain⟨t,rfl⟩:=rx;cases y with
  | byt j=>obtain⟨t',rfl⟩:=ry;exact PySem.W.eq_bytes (Zf I q ZbT)
  | _=>exact absurd (show false=true from hs) Y0g
 | _=>cases y<;>exact absurd (show false=true from hs) Y0g
theorem Vn:OpR X (compareOp .NotEq) rNe:=by
 intro pins s σ H x y v u Q I rx ry h;obtain⟨hs,q⟩:=h;cases x with
 | non=>
  cases rx;cases y with
  | non=>cases ry;exact PySem.EqNone.ne_none_none (Zf I q (by simp))
  | bl j=>cases ry;exact PySem.EqNone.ne_none_bool (Zf I q (by simp))
  | int j=>obtain⟨t',rfl⟩:=ry;exact PySem.EqNone.ne_none_int (Zf I q (by simp))
  | str j=>obtain⟨t',rfl⟩:=ry;exact PySem.EqNone.ne_none_str (Zf I q (by simp))
  | _=>exact absurd (show false=true from hs) Y0g
 | bl i=>
  cases rx;cases y with
  | non=>cases ry;exact PySem.EqNone.ne_bool_none (Zf I q (by simp))
  | bl j=>cases ry;exact ne_bool (Zf I q (congrArg not Ze3))
  | str j=>obtain⟨t',rfl⟩:=ry;exact PySem.EqMixed.ne_bool_str (Zf I q (by simp))
  | _=>exact absurd (show false=true from hs) Y0g
 | int i=>
  obtain⟨t,rfl⟩:=rx;cases y with
  | non=>cases ry;exact PySem.EqNone.ne_int_none (Zf I q (by simp))
  | int j=>obtain⟨t',rfl⟩:=ry;exact ne_int (Zf I q (congrArg not Zb0))
  | str j=>obtain⟨t',rfl⟩:=ry;exact PySem.EqMixed.ne_int_str (Zf I q (by simp))
  | _=>exact absurd (show false=true from hs) Y0g
 | str i=>
  obtain⟨t,rfl⟩:=rx;cases y with
  | non=>cases ry;exact PySem.EqNone.ne_str_none (Zf I q (by simp))
  | bl j=>cases ry;exact PySem.EqMixed.ne_str_bool (Zf I q (by simp))
  | int j=>obtain⟨t',rfl⟩:=ry;exact PySem.EqMixed.ne_str_int (Zf I q (by simp))
  | str j=>obtain⟨t',rfl⟩:=ry;exact ne_str (Zf I q (congrArg not Zcf))
  | _=>exact absurd (show false=true from hs) Y0g
 | byt i=>
  obtain⟨t,rfl⟩:=rx;cases y with
  | byt j=>obtain⟨t',rfl⟩:=ry;exact PySem.W.ne_bytes (Zf I q (congrArg not ZbT))
  | _=>exact absurd (show false=true from hs) Y0g
 | _=>cases y<;>exact absurd (show false=true from hs) Y0g
theorem Vo:OpR X (compareOp .Lt) (rI0 fun i j=>.bl (decide (i<j))):=Zim fun _ _ _ _ _ _ _ q=>lt_int q
theorem Wi:OpR X (compareOp .LtE) (rI0 fun i j=>.bl (decide (i<=j))):=Zim fun _ _ _ _ _ _ _ q=>le_int q
theorem Vm:OpR X (compareOp .Gt) (rI0 fun i j=>.bl (decide (j<i))):=Zim fun _ _ _ _ _ _ _ q=>gt_int q
theorem Z7A:OpR X (compareOp .In) (fun x y H Q=>∃ i j,x=.str i/\y=.str j/\Q (.bl (!(Builtin.Str.occurrences j i 0 j.length 1).isEmpty)) H):=by
 intro pins s σ H x y v u Q I rx ry h;obtain⟨i,j,rfl,rfl,q⟩:=h;obtain⟨t,rfl⟩:=rx;obtain⟨t',rfl⟩:=ry;exact in_str (Zf I q rfl)
theorem Zg8:OpR X (compareOp .Is) (fun x y H Q=>y=.non/\Q (.bl (decide (x=.non))) H):=by
 intro pins s σ H x y v u Q I rx ry h;obtain⟨rfl,q⟩:=h;cases ry;refine is_none_gen (Zf I q ?_);cases x<;>first
  | (cases rx;rfl)
  | (obtain⟨t,rfl⟩:=rx;rfl)
theorem Zw (b:Expr){op:CmpOp}(h:op≠.In:=by decide)(h2:op≠.NotIn:=by decide):behindInMarks op b=false:=by
 have e1:(op==CmpOp.In)=false:=by cases op<;>first|rfl|exact absurd rfl h
 have e2:(op==CmpOp.NotIn)=false:=by cases op<;>first|rfl|exact absurd rfl h2
 cases b<;>simp[behindInMarks,e1,e2]
theorem Ym {op:CmpOp}{r:R2}(ho:OpR X (compareOp op) r)(ha:PE X a ta)(hb:PE X b tb)(hm:behindInMarks op b=false):PE X (.Compare a [op] [b] pos) (tOp r ta tb):=by
 intro pins s σ H Q I h;exact wpAny_Compare1 (Zip ha hb I h fun v u s2 x y H2 I2 rx ry q=>ho pins s2 σ H2 x y v u Q I2 rx ry q) hm
noncomputable def Sz (t:TE):TT:=fun σ H Q=>t σ H fun x H'=>∃ k,x=.bl k/\Q k H'
theorem Zt {op:CmpOp}{r:R2}(ho:OpR X (compareOp op) r)(ha:PE X a ta)(hb:PE X b tb)(hm:behindInMarks op b=false):PT X (.Compare a [op] [b] pos) (Sz (tOp r ta tb)):=by
 intro pins s σ H Q I h;refine wpAny_isTrue_Compare1 (thn (ha pins s σ H _ I h) fun v s1 ⟨x,H1,I1,r1,q1⟩=>thn (hb pins s1 σ H1 _ I1 q1) fun u s2 ⟨y,H2,I2,r2,q2⟩=>
  thn (ho pins s2 σ H2 x y v u _ I2 r1 r2 q2) fun c s3 ⟨z,H3,I3,r3,k,e,q3⟩=>?_) hm
 subst e;cases r3;exact wpAny_truthy_bool ⟨H3,I3,q3⟩
noncomputable def Zep (r r':R2)(ta tb tc:TE):TE:=fun σ H Q=>ta σ H fun x H1=>tb σ H1 fun y H2=>r x y H2 fun z H3=>∃ k,z=.bl k/\
 (if k=true then tc σ H3 fun w' H4=>r' y w' H4 Q else Q (.bl false) H3)
theorem Z6h {op op':CmpOp}{r r':R2}(ho:OpR X (compareOp op) r)(ho':OpR X (compareOp op') r')(ha:PE X a ta)(hb:PE X b tb)(hc:PE X c tc)
  (hm:lastMarks [op,op'] [b,c]=false:=by with_unfolding_all rfl):PE X (.Compare a [op,op'] [b,c] pos) (Zep r r' ta tb tc):=by
 intro pins s σ H Q I h;refine Compare_chain (thn (ha pins s σ H _ I h) fun v s1 ⟨x,H1,I1,r1,q1⟩=>chain_link (thn (hb pins s1 σ H1 _ I1 q1) fun u s2 ⟨y,H2,I2,r2,q2⟩=>
  thn (ho pins s2 σ H2 x y v u _ I2 r1 r2 q2) fun d s3 ⟨z,H3,I3,r3,k,e,q3⟩=>?_)) hm
 subst e;cases r3;refine wpAny_truthy_bool ?_;cases k with
 | false=>exact ite_ff ⟨.bl false,H3,I3,rfl,q3⟩
 | true=>exact ite_tt (chain_last (thn (hc pins s3 σ H3 _ I3 q3) fun w' s4 ⟨z',H4,I4,r4,q4⟩=>ho' pins s4 σ H4 y z' u w' Q I4 r2 r4 q4))
theorem Zcv {op op':CmpOp}{r r':R2}(ho:OpR X (compareOp op) r)(ho':OpR X (compareOp op') r')(ha:PE X a ta)(hb:PE X b tb)(hc:PE X c tc)
  (hm:lastMarks [op,op'] [b,c]=false:=by with_unfolding_all rfl):PT X (.Compare a [op,op'] [b,c] pos) (Sz (Zep r r' ta tb tc)):=by
 intro pins s σ H Q I h;refine isTrue_chain (thn (ha pins s σ H _ I h) fun v s1 ⟨x,H1,I1,r1,q1⟩=>test_link (thn (hb pins s1 σ H1 _ I1 q1) fun u s2 ⟨y,H2,I2,r2,q2⟩=>
  thn (ho pins s2 σ H2 x y v u _ I2 r1 r2 q2) fun d s3 ⟨z,H3,I3,r3,k,e,q3⟩=>?_)) hm
 subst e;cases r3;refine wpAny_truthy_bool ?_;cases k with
 | false=>
  obtain⟨k',e',q'⟩:=q3;cases e';exact ite_ff ⟨H3,I3,q'⟩
 | true=>
  refine ite_tt (test_last (thn (hc pins s3 σ H3 _ I3 q3) fun w' s4 ⟨z',H4,I4,r4,q4⟩=>thn (ho' pins s4 σ H4 y z' u w' _ I4 r2 r4 q4) fun d' s5 ⟨z2,H5,I5,r5,k2,e2,q5⟩=>?_));subst e2;cases r5;exact wpAny_truthy_bool ⟨H5,I5,q5⟩
theorem VA:(sizeLine:Nat)<2^63:=by rw[sizeLine_eq];decide
theorem YI:OpR X (binaryOp .Add) (fun x y H Q=>∃ i j,x=.str i/\y=.str j/\i.length+j.length<=sizeLine/\Q (.str (i++j)) H):=by
 intro pins s σ H x y v u Q I rx ry h;obtain⟨i,j,rfl,rfl,hz,q⟩:=h;obtain⟨t,rfl⟩:=rx;obtain⟨t',rfl⟩:=ry;exact add_str (fun t' tk=>⟨.str (i++j),H,I.tok _,⟨_,rfl⟩,q⟩) hz
theorem YE {x:V}{us:List Value}(r:ZT [x] us):∃ u,us=[u]/\ZI x u:=by
 cases r with
 | cons r1 r2=>cases r2;exact⟨_,rfl,r1⟩
theorem ZgY {x y:V}{us:List Value}(r:ZT [x,y] us):∃ u w',us=[u,w']/\ZI x u/\ZI y w':=by
 cases r with
 | cons r1 r2=>
  cases r2 with
  | cons r3 r4=>cases r4;exact⟨_,_,rfl,r1,r3⟩
theorem Xb:YM X (.type "str") (fun xs H Q=>∃ i,xs=[.int i]/\i.natAbs.log2<1920/\Q (.str (toString i)) H):=by
 intro pins s σ H xs us Q I r h;obtain⟨i,rfl,hz,q⟩:=h;obtain⟨u,rfl,t,rfl⟩:=YE r;exact PySem.P.str_of_int hz ⟨.str _,H,I.tok _,⟨_,rfl⟩,q⟩
end
structure Wb (h:Heap)(x dx C:Addr)(mA:Str->Option Value):Prop where
 obj:h.get? x=some (Y1l C dx)
 ns:h.Ns1 dx mA
 ne:dx≠x
theorem Zat {h:Heap}{dx:Addr}{mA:Str->Option Value}(n:h.Ns1 dx mA):∃ od,h.get? dx=some od/\∀ name,Y42 name od=some (mA name):=by
 obtain⟨o,es,ep,ho,hd,hk,_,hm⟩:=n;refine⟨o,ho,fun name=>?_⟩;have e:=hm name;unfold nsFind findBy at e;rw[<-Array.find?_toList]at e;unfold Y42;rw[hd];dsimp only
 split
 ·rename_i y q;rw[q]at e;exact congrArg some e
 ·rename_i q;rw[q]at e;have a:es.toList.any (·.refKey)=false:=by
   rw[List.any_eq_false];intro y hy;obtain⟨z,t,hkey⟩:=hk y (Array.mem_toList_iff.mp hy);simp[DictEntry.refKey,hkey]
  have a':¬ es.toList.any (·.refKey)=true:=by rw[a];exact Y0g
  rw[if_neg a'];exact congrArg some e
theorem Wb.look {h:Heap}{x dx C:Addr}{mA:Str->Option Value}(I:Wb h x dx C mA):∃ od,PySem.W.InstAt h x (Y1l C dx) C (some od)/\∀ name,Y42 name od=some (mA name):=
 let ⟨od,ho,hl⟩:=Zat I.ns
 ⟨od,⟨I.obj,rfl,rfl,ho⟩,hl⟩
section
variable {prog:Program}{w:World}{A:Around}{E:Value->Shared->Prop}{s:Shared}{K:Y00}{x dx C f:Addr}{mA:Str->Option Value}{name:Str}{v:Value}
theorem Zex {expr:Bool}{Q:Value->Shared->Prop}(X:K.In s.heap)(I:Wb s.heap x dx C mA)(hg:Y35 K C name=true)(hh:Y3e K C=true)
  (ha:Y0v K (.ref C) name=some none) (hv:mA name=some v) (hv':PySem.W.handedIn v=true) (h:Q v { s with toks:=s.toks+1 }) :
  wpAny (model prog w) A (getAttr (.ref x) name expr) Q E s:=by
 obtain⟨od,J,hl⟩:=I.look;exact PySem.W.get_value X J (Y3s hg).1 (PySem.W.findObj_own hh ha rfl (by rw[hl,hv])) hv' h
theorem Zd1 {pl:Sem Bool}{Q:Value×List Value->Shared->Prop}(X:K.In s.heap)(I:Wb s.heap x dx C mA)(hg:Y35 K C name=true)
  (hf:Y0v K (.ref C) name=some (some (.ref f))) (ht:Y3k K (.ref f)=true) (hv:mA name=none) (h:Q (.ref f,[.ref x]) s) :
  wpAny (model prog w) A (getMethod (.ref x) name pl) Q E s:=by
 obtain⟨od,J,hl⟩:=I.look;exact PySem.W.method_fn X J (Y3s hg).1 (Y3s hg).2 hf (beq_iff_eq.mp ht) (by show (Y42 name od).map (·.isSome)=some false;rw[hl,hv];rfl) h
theorem ZfB {ns:List Str}{Q:Unit->Shared->Prop}(X:K.In s.heap)(I:Wb s.heap x dx C mA)
  (hs:Y0v K (.ref C) "__setattr__"=some (some (.builtin "object.__setattr__"))) (hp:Y46 K C=true) (ht:PySem.W.takerIn K C name=some none) (hh:Y3e K C=true)
  (hw:PySem.Within mA ns) (hsz:ns.length<=sizeLine)
  (h:∀ h',Wb h' x dx C (fun y=>if y=name then some v else mA y)->Y3j dx s.heap h'->Q () { s with heap:=h',toks:=s.toks+2 }) :
  wpAny (model prog w) A (setAttr (.ref x) name v) Q E s:=by
 obtain⟨od,J,hl⟩:=I.look;refine PySem.W.set_plain X J hs (PySem.W.osa_open (s:={ s with toks:=s.toks+1 }) (r:=none) X J hp ht fun b=>?_);obtain⟨cd,hc,hd'⟩:=PySem.W.any_some hh;have hx:s.heap.get? x=some ⟨.ref C,some dx,.plain,#[]⟩:=I.obj;refine wpAny_bind (wpAny_pure (wpAny_bind (wpAny_bind (wpAny_loadPart hx (wpAny_bind (PySem.W.Looks.here (s:={ s with toks:=s.toks+1 }) (PySem.W.looks_clsIn X hc) ?_))))));rw[hd'];refine wpAny_pure (a:=some dx) (wpAny_bind (wpAny_pure (wpAny_bind ?_)));refine wpAny_nsSet1 (s:={ s with toks:=s.toks+1 }) I.ns fun h' hn2 hs2=>?_;obtain⟨oD,esD,epD,hoD,hdD,hcD⟩:=hn2.count (PySem.Within.cons name v hw);refine wpAny_bind (wpAny_lookBehind hoD (by rw[hdD];exact pastItsLine_dict (Y1c hcD (by rw[Y0f];omega))) ?_);exact wpAny_pure (h _ ⟨(hs2.2 _ (Ne.symm I.ne)).trans I.obj,hn2,I.ne⟩ hs2)
theorem Zdb {R:Result->Shared->Prop}{vs:List Value}{kw:List (Str×Value)}(X:K.In s.heap)(hm:Y2u K C=true)
  (hi:Y0v K (.ref C) "__init__"=some (some (.ref f))) (hf:Y3i K (.ref f)=some (.type "function"))
  (h:codeAny (model prog w) (A.under (.builtin "type.__call__" ⟨.ref C::vs,kw⟩)) (.call (.ref f) ⟨.ref (s.heap.objs.size+1)::vs,kw⟩) (PySem.W.InitBack (s.heap.objs.size+1) R)
   { s with heap:=(s.heap.push Y1a).push (Y1l C s.heap.objs.size) }) :
  codeAny (model prog w) A (.call (.ref C) ⟨vs,kw⟩) R s:=by
 obtain⟨hh,g,d,t,os⟩:=s;exact PySem.W.make_core (PySem.W.makes_of X hm) (PySem.W.looks_findIn X hi) (fun self=>PySem.W.bind_fn X self hf) (.inl rfl) h
theorem Zak {R:Result->Shared->Prop}(X:K.In s.heap)(hm:Y2u K C=true)
  (hi:Y0v K (.ref C) "__init__"=some (some (.builtin "object.__init__")))
  (hb:∀ self,Y38 (model prog w) s.heap (bindSpecial (.builtin "object.__init__") self) (.builtin "object.__init__",[self]))
  (h:codeAny (model prog w) (A.under (.builtin "type.__call__" ⟨[.ref C],[]⟩)) (.call (.builtin "object.__init__") ⟨[.ref (s.heap.objs.size+1)],[]⟩) (PySem.W.InitBack (s.heap.objs.size+1) R)
   { s with heap:=(s.heap.push Y1a).push (Y1l C s.heap.objs.size) }) :
  codeAny (model prog w) A (.call (.ref C) ⟨[],[]⟩) R s:=by
 obtain⟨hh,g,d,t,os⟩:=s;exact PySem.W.make_core (PySem.W.makes_of X hm) (PySem.W.looks_findIn X hi) hb (.inr ⟨rfl,rfl⟩) h
end
noncomputable def Za (f:Str)(v:V):List (Str×V)->List (Str×V)
 | []=>[(f,v)]
 | (g,x)::r=>if g=f then (g,v)::r else (g,x)::Za f v r
theorem Tx (f g:Str)(v:V):∀ fs:List (Str×V),(Za f v fs).lookup g=if g=f then some v else fs.lookup g
 | []=>by
  show Y2h g [(f,v)]=_
  by_cases h:g=f
  ·have hb:(g==f)=true:=beq_iff_eq.mpr h;simp only[Y2h,hb,if_pos h]
  ·have hb:(g==f)=false:=beq_eq_false_iff_ne.mpr h;simp only[Y2h,hb,if_neg h]
 | (k,x)::r=>by
  have ih:=Tx f g v r;rw[show Za f v ((k,x)::r)=(if k=f then (k,v)::r else (k,x)::Za f v r) from rfl]
  by_cases hk:k=f
  ·rw[if_pos hk]
   by_cases h:g=k
   ·have hb:(g==k)=true:=beq_iff_eq.mpr h;simp only[Y2h,hb,if_pos (h.trans hk)]
   ·have hb:(g==k)=false:=beq_eq_false_iff_ne.mpr h;simp only[Y2h,hb,if_neg (fun e:g=f=>h (e.trans hk.symm))]
  ·rw[if_neg hk]
   by_cases h:g=k
   ·have hb:(g==k)=true:=beq_iff_eq.mpr h;simp only[Y2h,hb,if_neg (fun e:g=f=>hk (h.symm.trans e))]
   ·have hb:(g==k)=false:=beq_eq_false_iff_ne.mpr h;simp only[Y2h,hb];exact ih
theorem Z5m (f:Str)(v:V):∀ fs:List (Str×V),f∈(Za f v fs).map (·.1)/\∀ g,g∈fs.map (·.1)->g∈(Za f v fs).map (·.1)
 | []=>⟨by simp[Za],fun g h=>by simp at h⟩
 | (k,x)::r=>by
  obtain⟨i1,i2⟩:=Z5m f v r;rw[show Za f v ((k,x)::r)=(if k=f then (k,v)::r else (k,x)::Za f v r) from rfl]
  by_cases hk:k=f
  ·rw[if_pos hk];subst hk;exact⟨by simp,fun g h=>by simpa using h⟩
  ·rw[if_neg hk];refine⟨?_,fun g h=>?_⟩
   ·rw[Y0w];exact Y0r _ i1
   ·rw[Y0w]at h ⊢;rcases Y0k.mp h with e|e
    ·exact Y0k.mpr (.inl e)
    ·exact Y0r _ (i2 g e)
theorem Z4E (f:Str)(v:V):∀ fs:List (Str×V),(Za f v fs).length<=fs.length+1
 | []=>by simp[Za]
 | (k,x)::r=>by
  have ih:=Z4E f v r;rw[show Za f v ((k,x)::r)=(if k=f then (k,v)::r else (k,x)::Za f v r) from rfl]
  by_cases hk:k=f
  ·rw[if_pos hk,Y0f,Y0f];omega
  ·rw[if_neg hk,Y0f,Y0f];omega
theorem Yw.some_of {v:V}{o:Option Value}(r:Yw (some v) o):∃ u,o=some u/\ZI v u:=by
 cases o with
 | none=>exact (show False from r).elim
 | some u=>exact⟨u,rfl,r⟩
theorem Yw.none_of {o:Option Value}(r:Yw none o):o=none:=by
 cases o with
 | none=>rfl
 | some u=>exact (show False from r).elim
theorem Zbu {v:V}{u:Value}(r:ZI v u):PySem.W.handedIn u=true:=by
 cases v with
 | non=>cases (show u=Value.none from r);rfl
 | bl b=>cases (show u=Value.bool b from r);rfl
 | int i=>obtain⟨t,e⟩:=(show ∃ t,u=Value.int i t from r);cases e;rfl
 | str x=>obtain⟨t,e⟩:=(show ∃ t,u=Value.str x t from r);cases e;rfl
 | byt b=>obtain⟨t,e⟩:=(show ∃ t,u=Value.bytes b t from r);cases e;rfl
 | flt b=>obtain⟨t,e⟩:=(show ∃ t,u=Value.float b t from r);cases e;rfl
 | ref a=>cases (show u=Value.ref a from r);rfl
 | ty n=>cases (show u=Value.type n from r);rfl
section
variable {P:Program}{w:World}{H H':Hp}{h h':Heap}{a C dx:Addr}{fs fs':List (Str×V)}
theorem SY (hok:HOk P w H h)(e:H a=some (.ins C dx fs)):∃ mA,Wb h a dx C mA/\(∀ f,Yw (fs.lookup f) (mA f))/\PySem.Within mA (fs.map (·.1))/\fs.length<=1000/\H dx=some (.own a):=by
 obtain⟨d,z,ne,ob,mA,n,r,q⟩:=(show Zi P w H h a (.ins C dx fs) from hok a _ e);exact⟨mA,⟨ob,n,ne⟩,r,q,z,d⟩
end
structure Cls (K:Y00)(C:Addr):Prop where
 pg:Y35 K C Str.empty=true
 hd:Y3e K C=true
 po:Y46 K C=true
 sa:Y0v K (.ref C) "__setattr__"=some (some (.builtin "object.__setattr__"))
theorem Cls.get {K:Y00}{C:Addr}(c:Cls K C)(f:Str):Y35 K C f=true:=c.pg
def XX (K:Y00)(C:Addr)(f:Str):Prop:=Y0v K (.ref C) f=some none
theorem XX.taker {K:Y00}{C:Addr}{f:Str}(n:XX K C f):PySem.W.takerIn K C f=some none:=by
 unfold PySem.W.takerIn;rw[show Y0v K (.ref C) f=some none from n]
 rfl
structure Vb (K:Y00)(C:Addr)(m:Str)(f:Addr):Prop where
 at_:Y0v K (.ref C) m=some (some (.ref f))
 fn:Y3k K (.ref f)=true
 kp:Y18 K (.ref f)=true
section
variable {X:Cx}{pins:List (Addr×Obj)}{σ:St}{H:Hp}{s:Shared}{a C dx:Addr}{fs:List (Str×V)}{f:Str}{v:V}{A:Around}{E:Value->Shared->Prop}
theorem Z9C {b:Bool}{Q:Value->Shared->Prop}(I:Inv X pins σ H s)(e:H a=some (.ins C dx fs))(c:Cls X.K C)(n:XX X.K C f)(l:fs.lookup f=some v)
  (h:∀ u s',Inv X pins σ H s'->ZI v u->Q u s'):wpAny (model X.prog X.w) A (getAttr (.ref a) f b) Q E s:=by
 obtain⟨mA,O,r,_,_,_⟩:=SY I.hok e;obtain⟨u,hu,ru⟩:=Yw.some_of (v:=v) (o:=mA f) (by rw[<-l];exact r f);exact Zex I.kIn O (c.get f) c.hd n hu (Zbu ru) (h u _ (I.tok _) ru)
theorem Z49 {m:Str}{g:Addr}{pl:Sem Bool}{Q:Value×List Value->Shared->Prop}(I:Inv X pins σ H s)(e:H a=some (.ins C dx fs))(c:Cls X.K C)(k:Vb X.K C m g)(l:fs.lookup m=none)
  (h:Q (.ref g,[.ref a]) s):wpAny (model X.prog X.w) A (getMethod (.ref a) m pl) Q E s:=by
 obtain⟨mA,O,r,_,_,_⟩:=SY I.hok e;have hn:mA m=none:=Yw.none_of (by rw[<-l];exact r m);exact Zd1 I.kIn O (c.get m) k.at_ k.fn hn h
theorem Z9B {y:V}{u:Value}{Q:Unit->Shared->Prop}(I:Inv X pins σ H s)(e:H a=some (.ins C dx fs))(c:Cls X.K C)(n:XX X.K C f)(hl:fs.length<1000)(ry:ZI y u)
  (h:∀ s',Inv X pins σ (upd H a (.ins C dx (Za f y fs))) s'->Q () s'):wpAny (model X.prog X.w) A (setAttr (.ref a) f u) Q E s:=by
 obtain⟨mA,O,r,wi,_,ho⟩:=SY I.hok e;have hz:(fs.map (·.1)).length<=sizeLine:=by rw[Y05,sizeLine_eq];omega
 refine ZfB I.kIn O c.sa c.po n.taker c.hd wi hz fun h' O' sb=>h _ ?_;have hd:∃ o,h'.get? dx=some o:=let ⟨o,_,_,e',_⟩:=O'.ns;⟨o,e'⟩
 refine I.write (x:=a) (e:=dx) (by rw[e];exact True.intro) (.inr ho) (fun b q hb z=>(sb.2 b hb).trans z) hd ?_;refine⟨by rw[ZZ O.ne];exact ho,?_,O.ne,O'.obj,_,O'.ns,fun g=>?_,fun g hg=>?_⟩
 ·have:=Z4E f y fs;omega
 ·show Yw ((Za f y fs).lookup g) (if g=f then some u else mA g);rw[Tx]
  by_cases q:g=f
  ·rw[if_pos q,if_pos q];exact ry
  ·rw[if_neg q,if_neg q];exact r g
 ·by_cases q:g=f
  ·rw[q];exact (Z5m f y fs).1
  ·refine (Z5m f y fs).2 g (wi g fun z=>hg ?_);show (if g=f then some u else mA g)=none;rw[if_neg q];exact z
theorem Inv.made (I:Inv X pins σ H s):Inv X pins σ (upd (upd H s.heap.objs.size (.own (s.heap.objs.size+1))) (s.heap.objs.size+1) (.ins C s.heap.objs.size []))
  { s with heap:=(s.heap.push Y1a).push (Y1l C s.heap.objs.size) }:=by
 have e1:(s.heap.push Y1a).get? s.heap.objs.size=some Y1a:=Y06 s.heap rfl;have e2:((s.heap.push Y1a).push (Y1l C s.heap.objs.size)).get? (s.heap.objs.size+1)=some (Y1l C s.heap.objs.size):=by
  have:=Y06 (s.heap.push Y1a) (o:=Y1l C s.heap.objs.size) rfl
  rwa [Y19]at this
 have e3:(s.heap.push Y1a).Ns s.heap.objs.size (fun _=>none):=⟨Y1a,#[],_,e1,rfl,(fun e he=>absurd he (by simp)),fun _=>rfl⟩;have I1:=I.laid (a:=s.heap.objs.size) (o:=.own (s.heap.objs.size+1)) (h':=s.heap.push Y1a) (t':=s.toks) (fun b u q=>Y02 _ q) (Y04 _) ⟨_,e1⟩;refine I1.laid (a:=s.heap.objs.size+1) (o:=.ins C s.heap.objs.size []) (t':=s.toks) (fun b u q=>Y02 _ q) (Nat.le_of_eq (Y19 _ _)) ?_;have ne:s.heap.objs.size≠s.heap.objs.size+1:=Y0j (Y1t _);refine⟨by rw[ZZ ne,Z2],Y0y _,ne,e2,fun _=>none,(Heap.Ns1.of_empty e3).at fun o q=>Y02 _ q,fun _=>True.intro,fun y hy=>absurd rfl hy⟩
theorem ZeJ {prog:Program}{w:World}{env:Env}{e:Expr}{f:Str}{pos:Pos}{s:Shared}{Q:Value->Shared->Prop}(hb:attributeBase e f env (eval e env)=eval e env)
  (h:wpAny (model prog w) A (eval e env) (fun o s₁=>wpAny (model prog w) A (getAttr o f true) Q E s₁) E s):wpAny (model prog w) A (eval (.Attribute e f pos) env) Q E s:=
 Attribute_any_ h (by rw[arm_eval_Attribute,hb])
end
noncomputable def tFld (K:Y00)(ta:TE)(f:Str):TE:=fun σ H Q=>ta σ H fun x H1=>∃ a C dx fs v,x=.ref a/\H1 a=some (.ins C dx fs)/\Cls K C/\XX K C f/\fs.lookup f=some v/\Q v H1
noncomputable def sFld (K:Y00)(ta tv:TE)(f:Str):TS:=fun D σ H=>tv σ H fun y H1=>ta σ H1 fun x H2=>∃ a C dx fs,x=.ref a/\H2 a=some (.ins C dx fs)/\Cls K C/\XX K C f/\fs.length<1000/\
 D.nx σ (upd H2 a (.ins C dx (Za f y fs)))
section
variable {X:Cx}{o e value:Expr}{f:Str}{pos pos' tpos:Pos}{ta tv:TE}
theorem XR (he:PE X e ta)(hb:attributeBase e f X.env (eval e X.env)=eval e X.env):PE X (.Attribute e f pos) (tFld X.K ta f):=by
 intro pins s σ H Q I h;refine ZeJ hb (thn (he pins s σ H _ I h) fun u s1 ⟨x,H1,I1,rx,a,C,dx,fs,v,ex,ea,c,n,l,q⟩=>?_);subst ex;obtain rfl:u=Value.ref a:=rx;exact Z9C I1 ea c n l fun u' s2 I2 ru=>⟨v,H1,I2,ru,q⟩
theorem Vw (ha:PE X o ta)(hv:PE X value tv)(hs:swapsWith value (some (.Attribute o f pos')) pos.line X.env=pure false):PS X (.Assign [.Attribute o f pos'] value pos) (sFld X.K ta tv f):=by
 intro pins s σ H D I h;refine plainObj_wpAny_Assign_Attribute (thn (hv pins s σ H _ I h) fun u s1 ⟨y,H1,I1,ry,q⟩=>thn (ha pins s1 σ H1 _ I1 q) fun ov s2 ⟨x,H2,I2,rx,a,C,dx,fs,ex,ea,c,n,l,q2⟩=>?_) hs;subst ex;obtain rfl:ov=Value.ref a:=rx;exact Z9B I2 ea c n l ry fun s3 I3=>⟨σ,_,I3,q2⟩
end
section
variable {X:Cx}{pins:List (Addr×Obj)}{σ:St}{H:Hp}{s:Shared}{A:Around}{E:Value->Shared->Prop}{Q:Value->Shared->Prop}{c:Value}{b:Bool}
inductive YB (K:Y00) (H:Hp):V->Value->Prop where
 | non:YB K H .non (.type "NoneType")
 | bl (x:Bool):YB K H (.bl x) (.type "bool")
 | int (i:Int):YB K H (.int i) (.type "int")
 | str (x:Str):YB K H (.str x) (.type "str")
 | flt (x:UInt64):YB K H (.flt x) (.type "float")
 | lst {a:Addr} {xs:List V} (e:H a=some (.lst xs)):YB K H (.ref a) (.type "list")
 | frz {a:Addr} {o:Obj} {xs:List V} (e:H a=some (.frz o (.lst xs))):YB K H (.ref a) (.type "list")
 | tup {a:Addr} {xs:List V} (e:H a=some (.tup xs)):YB K H (.ref a) (.type "tuple")
 | dK {a:Addr} {kvs:List (Key×V)} (e:H a=some (.dK kvs)):YB K H (.ref a) (.type "dict")
 | dT {a:Addr} {kvs:List (List Key×V)} (e:H a=some (.dT kvs)):YB K H (.ref a) (.type "dict")
 | ins {a C dx:Addr} {fs:List (Str×V)} (e:H a=some (.ins C dx fs)) (cl:Cls K C) (ha:Y0v K (.ref C) "__class__"=some (some (.builtin "object.__class__")))
   (hn:Y3f K (.builtin "object.__class__") "__get__"=some (some (.builtin "getset_descriptor.__get__"))) (htk:Y3t K (.builtin "object.__class__")=some true)
   (hm:Y48 K C (.type "object")=some true):YB K H (.ref a) (.ref C)
theorem ZbJ {x:V}{u t:Value}(I:Inv X pins σ H s)(rx:ZI x u)(ty:YB X.K H x t)(e:Y23 X.K t c=some b)(h:∀ tk,Q (.bool b) { s with toks:=tk }) :
  wpAny (model X.prog X.w) A (call (.builtin "isinstance") [u,c]) Q E s:=by
 cases ty with
 | non=>cases (show u=Value.none from rx);exact Y1s PySem.W.kitx_none I.kIn True.intro e (fun z=>nomatch z) h
 | bl y=>cases (show u=Value.bool y from rx);exact Y1s PySem.W.kitx_bool I.kIn True.intro e (fun z=>nomatch z) h
 | int i=>obtain⟨t,q⟩:=(show ∃ t,u=Value.int i t from rx);cases q;exact Y1s PySem.W.kitx_int I.kIn True.intro e (fun z=>nomatch z) h
 | str y=>obtain⟨t,q⟩:=(show ∃ t,u=Value.str y t from rx);cases q;exact Y1s PySem.W.kitx_str I.kIn True.intro e (fun z=>nomatch z) h
 | flt y=>obtain⟨t,q⟩:=(show ∃ t,u=Value.float y t from rx);cases q;exact Y1s PySem.W.kitx_float I.kIn True.intro e (fun z=>nomatch z) h
 | @lst a xs ea=>
  cases (show u=Value.ref a from rx);obtain⟨_,_,n,_,h1⟩:=(show Zi X.prog X.w H s.heap a (.lst xs) from I.hok a _ ea);exact Y1s PySem.W.kitx_list I.kIn ⟨_,h1,rfl⟩ e (fun z=>nomatch z) h
 | @frz a ob xs ea=>
  cases (show u=Value.ref a from rx);obtain⟨_,_,_,n,_,h1⟩:=(show Zi X.prog X.w H s.heap a (.frz ob (.lst xs)) from I.hok a _ ea);exact Y1s PySem.W.kitx_list I.kIn ⟨_,h1,rfl⟩ e (fun z=>nomatch z) h
 | @tup a xs ea=>
  cases (show u=Value.ref a from rx);obtain⟨_,_,_,p⟩:=(show Zi X.prog X.w H s.heap a (.tup xs) from I.hok a _ ea);obtain⟨o,h1,h2,_⟩:=p;exact Y1s PySem.W.kitx_tuple I.kIn ⟨o,h1,h2⟩ e (fun z=>nomatch z) h
 | @dK a kvs ea=>
  cases (show u=Value.ref a from rx);obtain⟨_,_,vs,_,p⟩:=(show Zi X.prog X.w H s.heap a (.dK kvs) from I.hok a _ ea);obtain⟨o,es,ep,h1,h2,_⟩:=p;exact Y1s PySem.W.kitx_dict I.kIn ⟨o,h1,h2.1⟩ e (fun z=>nomatch z) h
 | @dT a kvs ea=>
  cases (show u=Value.ref a from rx);obtain⟨_,_,xs,_,o,es,ep,h1,h2,_⟩:=(show Zi X.prog X.w H s.heap a (.dT kvs) from I.hok a _ ea);exact Y1s PySem.W.kitx_dict I.kIn ⟨o,h1,h2.1⟩ e (fun z=>nomatch z) h
 | @ins a C dx fs ea cl ha hn htk hm=>
  cases (show u=Value.ref a from rx);obtain⟨mA,O,_⟩:=SY I.hok ea;obtain⟨od,J,_⟩:=O.look;exact Y1s (PySem.W.kitx_own (cl.get _) cl.hd ha hn htk hm) I.kIn J e (fun z=>nomatch z) h
end
structure ZR (k:Nat)(A:Around):Prop where
 hd:A.handled=none
 dp:A.depth+3*k+5<recursionLimit
 un:A.units+16*k+200<cLine
theorem ZR.mono {j k:Nat}{A:Around}(r:ZR k A)(h:j<=k):ZR j A:=⟨r.hd,by have:=r.dp;omega,by have:=r.un;omega⟩
theorem ZR.deeper {k:Nat}{A:Around}(r:ZR (k+1) A)(env:Env):ZR k (A.deeper env):=
 ⟨r.hd,by have:=r.dp;show A.depth+1+3*k+5<_;omega,by have:=r.un;show A.units+3+16*k+200<_;omega⟩
theorem Z9o {A:Around}{C:Addr}{us:List Value}{kw:List (Str×Value)}:(A.under (.builtin "type.__call__" ⟨.ref C::us,kw⟩)).depth=A.depth+1:=by
 first|rfl|simp[Around.under,Code.weight,Code.isCreation,Code.isGuard,Code.isCaller,Code.frames,Code.isFrame,guardIds]
theorem Z9V {A:Around}{C:Addr}{us:List Value}{kw:List (Str×Value)}:(A.under (.builtin "type.__call__" ⟨.ref C::us,kw⟩)).units=A.units+1:=by
 first|rfl|simp[Around.under,Code.cUnits,Code.frames,Code.isFrame]
theorem ZR.make {k:Nat}{A:Around}(r:ZR (k+1) A)(C:Addr)(us:List Value)(kw:List (Str×Value)):ZR k (A.under (.builtin "type.__call__" ⟨.ref C::us,kw⟩)):=
 ⟨r.hd,by have:=r.dp;rw[Z9o];omega,by have:=r.un;rw[Z9V];omega⟩
theorem ZR.depth {k:Nat}{A:Around}(r:ZR k A):A.depth<recursionLimit:=by have:=r.dp;omega
theorem ZR.units {k:Nat}{A:Around}(r:ZR k A):A.units+64<cLine:=by have:=r.un;omega
noncomputable def Zx:TA:=fun _ H Q=>Q [] H
noncomputable def ZM (ta:TE)(tr:TA):TA:=fun σ H Q=>ta σ H fun x H1=>tr σ H1 fun xs H2=>Q (x::xs) H2
section
variable {X:Cx}{e:Expr}{es:List Expr}{te:TE}{t:TA}{pos:Pos}
theorem Z8:PA X [] Zx:=fun _ _ _ _ H Q I h=>Calls.spliced_nil ⟨[],H,I,.nil,h⟩
theorem Z9 (ha:PE X e te)(hr:PA X es t)(hs:starEach (e::es) X.env=(false,eval e X.env)::starEach es X.env:=by rfl):PA X (e::es) (ZM te t):=by
 intro pos pins s σ H Q I h;rw[hs];show wpAny _ _ (spliced ((false,eval e X.env)::backTo pos (starEach es X.env))) _ _ s;refine Calls.spliced_cons (thn (ha pins s σ H _ I h) fun u s1 ⟨x,H1,I1,r1,q1⟩=>?_);exact thn (hr pos pins s1 σ H1 _ I1 q1) fun us s2 ⟨xs,H2,I2,r2,q2⟩=>⟨x::xs,H2,I2,.cons r1 r2,q2⟩
noncomputable def tTup (t:TA):TE:=fun σ H Q=>t σ H fun xs H1=>xs.length<=sizeLine/\∀ p,H1 p=none->Q (.ref p) (upd H1 p (.tup xs))
noncomputable def ZjJ (t:TA):TE:=fun σ H Q=>t σ H fun xs H1=>xs.length<=sizeLine/\∀ p,H1 p=none->Q (.ref p) (upd H1 p (.lst xs))
theorem Y2 {x1}(h:PA X es t):PE X (.Tuple es x1 pos) (tTup t):=by
 intro pins s σ H Q I hq;refine wpAny_Tuple_spliced (thn (h pos pins s σ H _ I hq) fun us s1 ⟨xs,H1,I1,r,z,q⟩=>⟨by rw[<-r.length];exact z,?_⟩);have hf:H1 s1.heap.objs.size=none:=I1.hok.fresh (Y04 _);refine⟨.ref s1.heap.objs.size,upd H1 s1.heap.objs.size (.tup xs),I1.laid (t':=s1.toks) (fun b u e=>Y02 _ e) (Y04 _) ?_,rfl,q _ hf⟩;exact⟨⟨z,_,Y06 _ rfl,rfl⟩,us,r,⟨_,Y06 _ rfl,rfl,_,rfl⟩⟩
theorem Y8 (h:PA X es t):PE X (.List es pos) (ZjJ t):=by
 intro pins s σ H Q I hq;refine wpAny_List_spliced (thn (h pos pins s σ H _ I hq) fun us s1 ⟨xs,H1,I1,r,z,q⟩=>⟨by rw[<-r.length];exact z,?_⟩);have hf:H1 s1.heap.objs.size=none:=I1.hok.fresh (Y04 _);refine⟨.ref s1.heap.objs.size,upd H1 s1.heap.objs.size (.lst xs),I1.laid (t':=s1.toks) (fun b u e=>Y02 _ e) (Y04 _) ?_,rfl,q _ hf⟩;exact⟨z,us,0,r,Y06 _ rfl⟩
end
noncomputable abbrev Sp:=List V->Hp->VK->XK->Prop
noncomputable abbrev CXT:=List Env->Hp->Shared->XK->Value->Shared->Prop
structure Wa (P:Program)(w:World)(K:Y00)(mg:Str->Option Value)(base:Heap)(A:Around)(outer:List Env)(s:Shared)(H:Hp):Prop where
 frames:A.frames=some outer
 mod:Mod K mg base
 bs:∀ b o,base.get? b=some o->s.heap.get? b=some o/\H b=none
 bsz:base.objs.size<=s.heap.objs.size
 funs:s.heap.FunFrames base outer
 frf:∀ b∈frs outer,H b=none
 hok:HOk P w H s.heap
 bare:AllBare s.gens
def CE (outer:List Env)(P:Program)(w:World)(H:Hp)(s:Shared)(Q:VK)(u:Value)(s':Shared):Prop:=
 ∃ v H',s'.os=s.os/\AllBare s'.gens/\Un (frs outer) [] H H' s.heap s'.heap/\HOk P w H' s'.heap/\ZI v u/\Q v H'
def CR (CX:CXT)(outer:List Env)(P:Program)(w:World)(H:Hp)(s:Shared)(Q:VK)(E:XK)(r:Result)(s':Shared):Prop:=
 match r with
 | .ok (.ret u)=>CE outer P w H s Q u s'
 | .ok _=>False
 | .error e=>CX outer H s E e s'
structure Z6 (P:Program)(w:World)(K:Y00)(mg:Str->Option Value)(base:Heap)(CX:CXT)(k:Nat)(f:Addr)(fd:FuncData)(ps:List Str)(sp:Sp):Prop where
 len:∀ vs H Q E,sp vs H Q E->vs.length=ps.length
 run:∀ (A:Around) (outer:List Env) (s:Shared) (H:Hp) (args:Args) (us:List Value) (vs:List V) (Q:VK) (E:XK),ZR k A->Wa P w K mg base A outer s H->BindsTo s fd args (ps.zip us)->ZT vs us->sp vs H Q E->
  codeAny (model P w) A (.call (.ref f) args) (CR CX outer P w H s Q E) s
theorem Wa.make {P:Program}{w:World}{K:Y00}{mg:Str->Option Value}{base:Heap}{A:Around}{outer:List Env}{s:Shared}{H:Hp}(e:Wa P w K mg base A outer s H)(C:Addr)(us:List Value)(kw:List (Str×Value)) :
  Wa P w K mg base (A.under (.builtin "type.__call__" ⟨.ref C::us,kw⟩)) outer s H:=⟨by first|exact e.frames|(simpa [Around.under,Code.envs,Code.isFrame,pushEnvs] using e.frames),e.mod,e.bs,e.bsz,e.funs,e.frf,e.hok,e.bare⟩
section
variable {X:Cx}{pins:List (Addr×Obj)}{σ:St}{H:Hp}{s s':Shared}
theorem Inv.env0 (I:Inv X pins σ H s):Wa X.prog X.w X.K X.mg X.base X.A X.stack s H:=
 ⟨I.ok.frames,I.ok.mod,I.bs,Y1c I.ok.bsz I.sz,I.stack,I.stkFree,I.hok,I.bare⟩
theorem Inv.after {Q:VK}{u:Value}(I:Inv X pins σ H s)(h:CE X.stack X.prog X.w H s Q u s'):EP X pins σ Q u s':=by
 obtain⟨v,H',os,bare,un,hok,r,q⟩:=h;obtain⟨hh,g,d,t,os'⟩:=s';obtain rfl:os'=s.os:=os;exact⟨v,H',I.call (h':=hh) (g':=g) (d':=d) (t':=t) (ch:=[]) un hok bare (fun b z=>absurd z (by simp)),r,q⟩
end
noncomputable def Yz (sp:Sp)(dvs:List V)(E:XK)(t:TA):TE:=fun σ H Q=>t σ H fun vs H1=>sp (vs++dvs) H1 Q E
noncomputable def WT (C:Addr)(m:Str)(sp:Sp)(dvs:List V)(E:XK)(ta:TE)(t:TA):TE:=fun σ H Q=>ta σ H fun x H1=>∃ a dx fs,x=.ref a/\H1 a=some (.ins C dx fs)/\fs.lookup m=none/\
 t σ H1 fun vs H2=>sp (x::(vs++dvs)) H2 Q E
noncomputable def Zgz (C:Addr)(sp:Sp)(dvs:List V)(E:XK)(t:TA):TE:=fun σ H Q=>t σ H fun vs H1=>∀ x dx,H1 x=none->H1 dx=none->dx≠x->
 sp (.ref x::(vs++dvs)) (upd (upd H1 dx (.own x)) x (.ins C dx [])) (fun v H2=>v=.non/\Q (.ref x) H2) E
def YV (K:Y00)(fd:FuncData)(ps:List Str)(ds:List Value):Prop:=
 ∀ (s:Shared) (us:List Value),K.In s.heap->(us++ds).length=ps.length->BindsTo s fd ⟨us,[]⟩ (ps.zip (us++ds))
theorem YV.all {K:Y00}{fd:FuncData}{ps:List Str}(h:∀ us:List Value,us.length=ps.length->bindArgs fd ⟨us,[]⟩=pure (ps.zip us)):YV K fd ps []:=fun s us _ hl=>by
 rw[Y1h]at hl ⊢;exact .of_eq (h us hl)
def Xy (CX:CXT)(X:Cx)(E:XK):Prop:=∀ (pins:List (Addr×Obj)) (σ:St) (H:Hp) (s:Shared) (e:Value) (s':Shared),Inv X pins σ H s->CX X.stack H s E e s'->X.xe e s'
section
variable {X:Cx}{CX:CXT}{k:Nat}{f C:Addr}{fd:FuncData}{ps:List Str}{sp:Sp}{dvs:List V}{ds:List Value}{E:XK}{x m:Str}{p pos apos:Pos}{e o:Expr}{es:List Expr}{ta:TE}{t:TA}
theorem ZbC {pins:List (Addr×Obj)}{σ:St}{H:Hp}{s:Shared}{Q:VK}{us:List Value}{vs:List V}(F:Z6 X.prog X.w X.K X.mg X.base CX k f fd ps sp)(hr:ZR k X.A)(hb:YV X.K fd ps ds)(hd:ZT dvs ds)(hx:Xy CX X E)
  (I:Inv X pins σ H s) (r:ZT vs us) (h:sp (vs++dvs) H Q E):wpAny (model X.prog X.w) X.A (call (.ref f) us) (EP X pins σ Q) X.xe s:=by
 have r2:ZT (vs++dvs) (us++ds):=r.append hd;have hl:(us++ds).length=ps.length:=by rw[<-r2.length];exact F.len _ _ _ _ h
 refine wpAny_call (codeAny_mono (F.run X.A X.stack s H ⟨us,[]⟩ (us++ds) (vs++dvs) Q E hr I.env0 (hb s us I.kIn hl) r2 h) fun r s' hq=>?_);cases r with
 | error e=>exact hx pins σ H s e s' I hq
 | ok fl=>
  cases fl with
  | ret u=>exact I.after hq
  | next=>exact False.elim hq
  | brk=>exact False.elim hq
  | cont=>exact False.elim hq
theorem ZU (F:Z6 X.prog X.w X.K X.mg X.base CX k f fd ps sp)(hr:ZR k X.A)(hg:Gl X x)(hm:X.mg x=some (.ref f))(hk:Y18 X.K (.ref f)=true)(hb:YV X.K fd ps ds)(hd:ZT dvs ds)(hx:Xy CX X E)
  (ha:PA X (e::es) t) (hdb:(x==("__debug__":Str))=false:=by decide) (he:starEach (e::es) X.env=(false,eval e X.env)::starEach es X.env:=by rfl) (hpl:(backTo pos (starEach es X.env)).any (·.1)=false:=by rfl) :
  PE X (.Call (.Name x p) (e::es) [] pos) (Yz sp dvs E t):=by
 intro pins s σ H Q I h;refine wpAny_Call_Name_kw (Wv I hg hm ?_ hdb);refine Y39 (h₀:=X.base) I.ok.mod.kin hk (thn (ha pos pins s σ H _ I h) fun us s1 ⟨vs,H1,I1,r,q⟩=>⟨I1.kIn,?_⟩) he hpl;exact ZbC F hr hb hd hx I1 r q
theorem Xm {pl:Sem Bool}(he:PE X o ta)(c:Cls X.K C)(hm:Vb X.K C m f)(F:Z6 X.prog X.w X.K X.mg X.base CX k f fd ps sp)(hr:ZR k X.A)(hb:YV X.K fd ps ds)(hd:ZT dvs ds)(hx:Xy CX X E)(ha:PA X (e::es) t)
  (hst:starEach (e::es) X.env=(false,eval e X.env)::starEach es X.env:=by rfl) (hpl:(backTo pos (starEach es X.env)).any (·.1)=false:=by rfl)
  (ht:eval (.Call (.Attribute o m apos) (e::es) [] pos) X.env=(do
   let ov <-eval o X.env
   standAt apos.atName
   let (f,first) <-holding [ov] (getMethod ov m pl)
   callWith pos f first (backTo pos (starEach (e::es) X.env)) (backToKw pos (keywordEach [] X.env))):=by rfl) :
  PE X (.Call (.Attribute o m apos) (e::es) [] pos) (WT C m sp dvs E ta t):=by
 intro pins s σ H Q I h;refine Y3l (pl:=pl) (thn (he pins s σ H _ I h) fun u s1 ⟨x,H1,I1,rx,a,dx,fs,ex,ea,l,q⟩=>?_) ht;subst ex;obtain rfl:u=Value.ref a:=rx;refine Z49 I1 ea c hm l ?_;refine Y39 (first:=[.ref a]) (h₀:=X.base) I.ok.mod.kin hm.kp (thn (ha pos pins s1 σ H1 _ I1 q) fun us s2 ⟨vs,H2,I2,r,q2⟩=>⟨I2.kIn,?_⟩) hst hpl;exact ZbC (us:=.ref a::us) (vs:=.ref a::vs) F hr hb hd hx I2 (.cons rfl r) q2
theorem Z6t {pl:Sem Bool}(he:PE X o ta)(c:Cls X.K C)(hm:Vb X.K C m f)(F:Z6 X.prog X.w X.K X.mg X.base CX k f fd ps sp)(hr:ZR k X.A)(hb:YV X.K fd ps ds)(hd:ZT dvs ds)(hx:Xy CX X E)
  (ht:eval (.Call (.Attribute o m apos) [] [] pos) X.env=(do
   let ov <-eval o X.env
   standAt apos.atName
   let (f,first) <-holding [ov] (getMethod ov m pl)
   callWith pos f first (backTo pos (starEach [] X.env)) (backToKw pos (keywordEach [] X.env))):=by rfl) :
  PE X (.Call (.Attribute o m apos) [] [] pos) (WT C m sp dvs E ta Zx):=by
 intro pins s σ H Q I h;refine Y3l (pl:=pl) (thn (he pins s σ H _ I h) fun u s1 ⟨x,H1,I1,rx,a,dx,fs,ex,ea,l,q⟩=>?_) ht;subst ex;obtain rfl:u=Value.ref a:=rx;refine Z49 I1 ea c hm l ?_;exact Y3u (first:=[.ref a]) I1.kIn hm.kp (ZbC (us:=[.ref a]) (vs:=[.ref a]) F hr hb hd hx I1 (.cons rfl .nil) q)
structure Mk (K:Y00)(C f:Addr):Prop where
 makes:Y2u K C=true
 init:Y0v K (.ref C) "__init__"=some (some (.ref f))
 fn:Y3k K (.ref f)=true
 kp:Y18 K (.ref C)=true
theorem Z8B {pins:List (Addr×Obj)}{σ:St}{H:Hp}{s:Shared}{Q:VK}{us:List Value}{vs:List V}(M:Mk X.K C f)(F:Z6 X.prog X.w X.K X.mg X.base CX k f fd ps sp)(hr:ZR (k+1) X.A)(hb:YV X.K fd ps ds)(hd:ZT dvs ds)
  (hx:Xy CX X E) (I:Inv X pins σ H s) (r:ZT vs us)
  (h:∀ x dx,H x=none->H dx=none->dx≠x->sp (.ref x::(vs++dvs)) (upd (upd H dx (.own x)) x (.ins C dx [])) (fun v H2=>v=.non/\Q (.ref x) H2) E) :
  wpAny (model X.prog X.w) X.A (call (.ref C) us) (EP X pins σ Q) X.xe s:=by
 have hq:=h (s.heap.objs.size+1) s.heap.objs.size (I.hok.fresh (Y2i _)) (I.hok.fresh (Y04 _)) (Y0j (Y1t _));have I2:=Inv.made (C:=C) I;have r2:ZT (V.ref (s.heap.objs.size+1)::(vs++dvs)) (Value.ref (s.heap.objs.size+1)::(us++ds)):=.cons rfl (r.append hd);have hl:(Value.ref (s.heap.objs.size+1)::us++ds).length=ps.length:=by
  have e:=r2.length;rw[F.len _ _ _ _ hq]at e;exact e.symm
 refine wpAny_call (Zdb (f:=f) I.kIn M.makes M.init (beq_iff_eq.mp M.fn) (codeAny_mono (F.run _ X.stack _ _ ⟨Value.ref (s.heap.objs.size+1)::us,[]⟩ (Value.ref (s.heap.objs.size+1)::(us++ds)) _ _ E (hr.make C us [])
  (I2.env0.make C us []) (hb _ (Value.ref (s.heap.objs.size+1)::us) I2.kIn hl) r2 hq) fun r s' hq'=>?_))
 cases r with
 | error e=>exact hx pins σ _ _ e s' I2 hq'
 | ok fl=>
  cases fl with
  | ret u=>
   obtain⟨v,H',I3,rv,ev,q3⟩:=I2.after hq';subst ev;exact⟨rv,⟨V.ref (s.heap.objs.size+1),H',I3,rfl,q3⟩⟩
  | next=>exact False.elim hq'
  | brk=>exact False.elim hq'
  | cont=>exact False.elim hq'
theorem Zbt (M:Mk X.K C f)(F:Z6 X.prog X.w X.K X.mg X.base CX k f fd ps sp)(hr:ZR (k+1) X.A)(hg:Gl X x)(hm:X.mg x=some (.ref C))(hb:YV X.K fd ps ds)(hd:ZT dvs ds)(hx:Xy CX X E)
  (ha:PA X (e::es) t) (hdb:(x==("__debug__":Str))=false:=by decide) (he:starEach (e::es) X.env=(false,eval e X.env)::starEach es X.env:=by rfl) (hpl:(backTo pos (starEach es X.env)).any (·.1)=false:=by rfl) :
  PE X (.Call (.Name x p) (e::es) [] pos) (Zgz C sp dvs E t):=by
 intro pins s σ H Q I h;refine wpAny_Call_Name_kw (Wv I hg hm ?_ hdb);refine Y39 (h₀:=X.base) I.ok.mod.kin M.kp (thn (ha pos pins s σ H _ I h) fun us s1 ⟨vs,H1,I1,r,q⟩=>⟨I1.kIn,?_⟩) he hpl;exact Z8B M F hr hb hd hx I1 r q
theorem ZcY (M:Mk X.K C f)(F:Z6 X.prog X.w X.K X.mg X.base CX k f fd ps sp)(hr:ZR (k+1) X.A)(hg:Gl X x)(hm:X.mg x=some (.ref C))(hb:YV X.K fd ps ds)(hd:ZT dvs ds)(hx:Xy CX X E)
  (hdb:(x==("__debug__":Str))=false:=by decide):PE X (.Call (.Name x p) [] [] pos) (Zgz C sp dvs E Zx):=by
 intro pins s σ H Q I h;refine wpAny_Call_Name_kw (Wv I hg hm ?_ hdb);exact Y3u I.kIn M.kp (Z8B (us:=[]) M F hr hb hd hx I .nil h)
end
section
variable {X:Cx}{CX:CXT}{k:Nat}{f C:Addr}{fd:FuncData}{ps ks:List Str}{sp:Sp}{E:XK}{x m:Str}{p pos apos kpos:Pos}{e o:Expr}{es:List Expr}{kws:List Keyword}{te ta:TE}{t tk:TA}{nm:Option Str}
variable {g:List Value->List Value->List Value}{gV:List V->List V->List V}
end
structure ZO (N P:List Str)(sc:Scope):Prop where
 kind:sc.kind=.function
 co:sc.isCoroutine=false
 gen:sc.isGenerator=false
 nd:N.Nodup
 pre:N.take P.length=P
 par:∀ x∈P,sc.names.lookup x=some .local\/sc.names.lookup x=some .cell
 nofree:∀ y∈sc.names,y.2≠.free
theorem Z6K {kindOf:Str->Option NameKind}{x:Str}:∀ {binds:List (Str×Value)} {m:Str->Option Value},(∀ v,(x,v)∉binds)->bindL kindOf binds m x=m x
 | [],_,_=>rfl
 | (n,v)::r,m,h=>by
  unfold bindL;rw[Z6K fun w hw=>h w (Y0r _ hw)]
  split
  ·have:x≠n:=(by rintro rfl;exact h v Y1r);simp[this]
  ·rfl
theorem Z7h {kindOf:Str->Option NameKind}{x:Str}:∀ {binds:List (Str×Value)} {m:Str->Option Value},(∀ v,(x,v)∉binds)->bindC kindOf binds m x=m x
 | [],_,_=>rfl
 | (n,v)::r,m,h=>by
  unfold bindC;rw[Z7h fun w hw=>h w (Y0r _ hw)]
  split
  ·rfl
  ·have:x≠n:=(by rintro rfl;exact h v Y1r);simp[this]
theorem Z6U {kindOf:Str->Option NameKind}{x:Str}{v:Value}:∀ {P:List Str} {vs:List Value} {i:Nat} {m:Str->Option Value},P.Nodup->P[i]?=some x->vs[i]?=some v->kindOf x=some .local->
  bindL kindOf (P.zip vs) m x=some v
 | [],_,_,_,_,h,_,_=>by simp at h
 | _::_,[],_,_,_,_,h,_=>by simp at h
 | p::P,w::vs,0,m,nd,h1,h2,hk=>by
  simp at h1 h2;subst h1;subst h2;show bindL kindOf ((p,w)::P.zip vs) m p=_;unfold bindL;rw[Z6K fun v hv=>(Y2k.mp nd).1 (List.of_mem_zip hv).1,if_pos hk];simp
 | p::P,w::vs,i+1,m,nd,h1,h2,hk=>by
  show bindL kindOf ((p,w)::P.zip vs) m x=_;unfold bindL;exact Z6U (i:=i) (Y2k.mp nd).2 (by simpa using h1) (by simpa using h2) hk
theorem Z6z {kindOf:Str->Option NameKind}{x:Str}{v:Value}:∀ {P:List Str} {vs:List Value} {i:Nat} {m:Str->Option Value},P.Nodup->P[i]?=some x->vs[i]?=some v->kindOf x≠some .local->
  bindC kindOf (P.zip vs) m x=some v
 | [],_,_,_,_,h,_,_=>by simp at h
 | _::_,[],_,_,_,_,h,_=>by simp at h
 | p::P,w::vs,0,m,nd,h1,h2,hk=>by
  simp at h1 h2;subst h1;subst h2;show bindC kindOf ((p,w)::P.zip vs) m p=_;unfold bindC;rw[Z7h fun v hv=>(Y2k.mp nd).1 (List.of_mem_zip hv).1,if_neg hk];simp
 | p::P,w::vs,i+1,m,nd,h1,h2,hk=>by
  show bindC kindOf ((p,w)::P.zip vs) m x=_;unfold bindC;exact Z6z (i:=i) (Y2k.mp nd).2 (by simpa using h1) (by simpa using h2) hk
noncomputable def start (N:List Str)(vs:List V):St:=vs.map some++Y0p (N.length-vs.length) none
noncomputable def Xt (CX:CXT)(P:Program)(w:World)(K:Y00)(mg:Str->Option Value)(base:Heap)(N:List Str)(qual:Str)(scope:Scope)(f:Addr)(cd:Value)(A:Around)(outer:List Env)(s:Shared)(H:Hp)(E:XK):Cx where
 prog:=P
 w:=w
 K:=K
 mg:=mg
 base:=base
 A:=A.deeper (envOfC qual scope s.heap.objs.size f cd)
 N:=N
 s₀:=s
 H₀:=H
 env:=envOfC qual scope s.heap.objs.size f cd
 outer:=outer
 stack:=envOfC qual scope s.heap.objs.size f cd::outer
 ex:=[]
 calm:=true
 fn:=fun _=>true
 pn:=[]
 xe:=fun e s'=>wpAny (model P w) (A.deeper (envOfC qual scope s.heap.objs.size f cd)) (leaving (envOfC qual scope s.heap.objs.size f cd) e) (fun _ s''=>CX outer H s E e s'') (fun e' s''=>CX outer H s E e' s'') s'
theorem Z99 {sc:Scope}{n:Nat}{x:Str}(h:sc.names.lookup x=some .cell):∃ c,(cellsFrom n sc.names []).lookup x=some c:=by
 have q:=PySem.W.cellsFrom_some sc.names n [] (.inl h);exact Option.isSome_iff_exists.mp q
theorem Z9Z {CX:CXT}{P:Program}{w:World}{K:Y00}{mg:Str->Option Value}{base:Heap}{N ps:List Str}{qual:Str}{scope:Scope}{f:Addr}{cd:Value}{A:Around}{outer:List Env}{s s1:Shared}{H:Hp}{E:XK}{us:List Value}{vs:List V}
  (S:ZO N ps scope) (hd:A.handled=none) (e0:Wa P w K mg base A outer s H) (hl:vs.length=ps.length) (r:ZT vs us)
  (x:InCallC s s.heap.objs.size (bindL (envOfC qual scope s.heap.objs.size f cd).kindOf (ps.zip us) fun _=>none) (cellsFrom (s.heap.objs.size+1) scope.names []) (bindC (envOfC qual scope s.heap.objs.size f cd).kindOf (ps.zip us) fun _=>none) s1) :
  Inv (Xt CX P w K mg base N qual scope f cd A outer s H E) [] (start N vs) H s1:=by
 have hpl:ps.length<=N.length:=by have:=congrArg Y1k S.pre;rw[Y1m]at this;omega
 obtain⟨h1,tk,rfl,hk⟩:=x.done;have noA:∀ b:Addr,b∉(Xt CX P w K mg base N qual scope f cd A outer s H E).ex:=fun b z=>absurd (show b∈([]:List Addr) from z) (by simp);refine⟨⟨e0.mod,S.kind,rfl,rfl,Y04 _,fun y z c h1 h2=>?_,fun y hy=>?_,fun y c _ h=>?_,fun _=>hd,Around.frames_deeper e0.frames,.inr ⟨rfl,rfl⟩,fun b z=>absurd z (noA b),e0.bs,e0.bsz,fun b _ _=>noA b,fun b z=>absurd z (noA b),e0.funs,e0.frf⟩,
  rfl,e0.bare,Un.kept hk,⟨_,x.toInCall.ns,fun i y v h1 h2 h3=>?_⟩,fun y c h=>⟨_,x.cell y c h⟩,e0.hok.fresh (Y04 _),fun y c h=>?_,fun p hp=>absurd (show p∈([]:List (Addr×Obj)) from hp) (by simp),e0.hok.kept hk,?_⟩
 ·exact name_of_addr x.apart (PySem.mem_of_lookup h1) (PySem.mem_of_lookup h2)
 ·have hy:scope.names.lookup y=some .cell\/scope.names.lookup y=some .free:=hy;rcases hy with hy|hy
  ·exact Z99 hy
  ·exact absurd rfl (S.nofree _ (PySem.mem_of_lookup hy))
 ·exact Y14 (x.above y c (PySem.mem_of_lookup h))
 ·have hi:i<vs.length:=by
   unfold start at h2
   by_cases hi:i<vs.length
   ·exact hi
   ·rw[Y1q (by simpa using hi)]at h2;rw[Y3a]at h2
    split at h2<;>cases h2
  have ha:vs[i]?=some v:=by
   unfold start at h2;rw[Y0z (by simpa using hi),Y0l]at h2;cases e:vs[i]? with
   | none=>rw[e]at h2;cases h2
   | some a=>rw[e]at h2;cases h2;rfl
  obtain⟨u,hu,rv⟩:=r.get ha;have hp:ps[i]?=some y:=by
   rw[<-S.pre,List.getElem?_take_of_lt (by omega)];exact h1
  have ndP:ps.Nodup:=by rw[<-S.pre];exact S.nd.sublist (List.take_sublist _ _)
  refine⟨u,rv,?_⟩;rcases S.par y (Y0o hp) with k|k
  ·exact .inl ⟨k,Z6U ndP hp hu k⟩
  ·obtain⟨c,e⟩:=Z99 (n:=s.heap.objs.size+1) k;refine .inr ⟨.inl k,c,e,?_⟩;have q:=x.cell y c e;rw[Z6z ndP hp hu (by show scope.names.lookup y≠_;rw[k];decide)]at q;exact q
 ·exact e0.hok.fresh (Y14 (x.above y c (PySem.mem_of_lookup h)))
 ·unfold start;show _=N.length;rw[Y09,Y05,Y2v];omega
theorem Zez {CX:CXT}{P:Program}{w:World}{K:Y00}{mg:Str->Option Value}{base:Heap}{k:Nat}{f:Addr}{name qual:Str}{params:Arguments}{body:List Stmt}{scope:Scope}{dV kV doc pm cdv ct oc:Value}{an od:Option Addr}
  {osl:Array (Option Value)} {N ps:List Str} {sp:Sp} (lk:K.lookup f=some ⟨oc,od,.func (Y17 name qual params body scope dV kV doc pm an cdv ct),osl⟩) (hcd:Y24 K cdv qual=true) (S:ZO N ps scope)
  (len:∀ vs H Q E,sp vs H Q E->vs.length=ps.length)
  (hbody:∀ (A:Around) (outer:List Env) (s:Shared) (H:Hp) (vs:List V) (Q:VK) (E:XK),ZR k (A.deeper (envOfC qual scope s.heap.objs.size f cdv))->sp vs H Q E->
   ∃ t,PSs (Xt CX P w K mg base N qual scope f cdv A outer s H E) body t/\t { nx:=fun _ H'=>Q .non H',rt:=Q } (start N vs) H) :
  Z6 P w K mg base CX (k+1) f (Y17 name qual params body scope dV kV doc pm an cdv ct) ps sp:=by
 refine⟨len,fun A outer s H args us vs Q E hr e0 hb r hsp=>?_⟩;have hl:=len _ _ _ _ hsp;have KX:K.In s.heap:=e0.mod.kin.keeps fun b o e=>(e0.bs b o e).1;have lim:s.heap.NoLimit:=e0.mod.nolimit.keeps fun b o e=>(e0.bs b o e).1;have hkind:∀ y∈ps.zip us,scope.names.lookup y.1=some .local\/(scope.names.lookup y.1=some .cell/\((cellsFrom (s.heap.objs.size+1) scope.names []).lookup y.1).isSome=true):=fun ⟨n,v⟩ hy=>by
  rcases S.par n (List.of_mem_zip hy).1 with q|q
  ·exact .inl q
  ·exact .inr ⟨q,PySem.W.cellsFrom_some _ _ _ (.inl q)⟩
 refine codeAny_call_function hr.depth (KX _ _ lk) rfl S.co S.gen rfl (PySem.W.codeRec_of KX hcd) (hb _ _ _ _ ?_);refine wpAny_newFunctionEnv_cells S.kind hkind fun env he s1 x=>?_;subst he;refine⟨lim.keeps x.toInCall.keep,codeAny_func ?_⟩;obtain⟨t,ht,hq⟩:=hbody A outer s H vs Q E (hr.deeper _) hsp;have I:Inv (Xt CX P w K mg base N qual scope f cdv A outer s H E) [] (start N vs) H s1:=Z9Z S hr.hd e0 hl r x;refine wpAny_mono (ht [] s1 (start N vs) H _ I hq) (fun fl s' hs=>?_) fun e s' hs=>hs;have fin:∀ {σ':St} {H':Hp} {v:V} {u:Value},Inv (Xt CX P w K mg base N qual scope f cdv A outer s H E) [] σ' H' s'->ZI v u->Q v H'->CE outer P w H s Q u s':=
  fun {σ' H' v u} J rv q=>⟨v,H',J.os,J.bare,J.base,J.hok,rv,q⟩
 cases fl with
 | ret u=>
  obtain⟨v,σ',H',J,rv,q⟩:=hs;exact fin J rv q
 | next=>
  obtain⟨σ',H',J,q⟩:=hs;exact fin (v:=V.non) (u:=Value.none) J rfl q
 | brk=>
  obtain⟨_,_,_,q⟩:=hs;exact False.elim q
 | cont=>
  obtain⟨_,_,_,q⟩:=hs;exact False.elim q
section
variable {X:Cx}{x:Str}{p pos:Pos}{e:Expr}{es:List Expr}{t:TA}{id T:String}{r:List V->Hp->VK->Prop}
def tCB (r:List V->Hp->VK->Prop)(t:TA):TE:=fun σ H Q=>t σ H fun vs H1=>r vs H1 Q
theorem ZF (hc:YM X (.builtin id) r)(hg:Gl X x)(hm:X.mg x=none)(hv:bootBuiltins x=some (.builtin id))(ha:PA X (e::es) t)(hn:x≠"__name__":=by decide)(hdb:(x==("__debug__":Str))=false:=by decide)
  (he:starEach (e::es) X.env=(false,eval e X.env)::starEach es X.env:=by rfl) (hpl:(backTo pos (starEach es X.env)).any (·.1)=false:=by rfl):PE X (.Call (.Name x p) (e::es) [] pos) (tCB r t):=by
 intro pins s σ H Q I h;refine wpAny_Call_Name_kw (Wo I hg hm hv ?_ hn hdb);exact PyProof.Rows.callWith_builtin1 (thn (ha pos pins s σ H _ I h) fun us s1 ⟨vs,H1,I1,r1,q1⟩=>hc pins s1 σ H1 vs us Q I1 r1 q1) he hpl
theorem Y7 (hc:YM X (.type T) r)(hg:Gl X x)(hm:X.mg x=none)(hv:bootBuiltins x=some (.type T))(ha:PA X (e::es) t)(hn:x≠"__name__":=by decide)(hdb:(x==("__debug__":Str))=false:=by decide)
  (he:starEach (e::es) X.env=(false,eval e X.env)::starEach es X.env:=by rfl) (hpl:(backTo pos (starEach es X.env)).any (·.1)=false:=by rfl):PE X (.Call (.Name x p) (e::es) [] pos) (tCB r t):=by
 intro pins s σ H Q I h;refine wpAny_Call_Name_kw (Wo I hg hm hv ?_ hn hdb);exact PyProof.Rows.callWith_type1 (thn (ha pos pins s σ H _ I h) fun us s1 ⟨vs,H1,I1,r1,q1⟩=>hc pins s1 σ H1 vs us Q I1 r1 q1) he hpl
end
end L2
namespace HT
open PySem PyProof.Rows
noncomputable def lexLt:List Int->List Int->Bool
 | [],[]=>false
 | [],_::_=>true
 | _::_,[]=>false
 | x::xs,y::ys=>if x=y then lexLt xs ys else decide (x<y)
theorem lexLt_cons (x y:Int)(xs ys:List Int):lexLt (x::xs) (y::ys)=if x=y then lexLt xs ys else decide (x<y):=rfl
section
open PySem.SeqAt
open PySem.AutoSeq1 (wpAny_loadPart')
open PySem.MeetsSeq PySem.MeetsSeq2 PySem.MeetsSeq3
end
section
variable {prog:Program}{w:World}{A:Around}{E:Value->Shared->Prop}{s:Shared}
noncomputable def sIx (n d:Nat):Option Int->Nat
 | none=>d
 | some v=>if v<0 then (v+(n:Int)).toNat else min v.toNat n
theorem sIx_nat (n d k:Nat):sIx n d (some (k:Int))=min k n:=by
 show (if (k:Int)<0 then ((k:Int)+(n:Int)).toNat else min (k:Int).toNat n)=min k n;rw[if_neg (by omega),Y0q]
theorem Zg0 (n d:Nat)(hd:d<=n)(o:Option Int):sIx n d o<=n:=by
 cases o with
 | none=>exact hd
 | some v=>
  show (if v<0 then (v+(n:Int)).toNat else min v.toNat n)<=n
  by_cases hv:v<0
  ·rw[if_pos hv];omega
  ·rw[if_neg hv];exact Nat.min_le_right _ _
theorem Zbj (v:Int)(n d:Nat):(if v<0 then max (v+(n:Int)) 0 else min v (n:Int))=((sIx n d (some v):Nat):Int):=by
 show (if v<0 then max (v+(n:Int)) 0 else min v (n:Int))=(((if v<0 then (v+(n:Int)).toNat else min v.toNat n):Nat):Int)
 by_cases hv:v<0
 ·simp only[if_pos hv];omega
 ·simp only[if_neg hv];omega
theorem Z9U (lo hi:Option Int)(n:Nat):Builtin.Slice.sliceAdjust lo hi 1 (n:Int)=(((sIx n 0 lo:Nat):Int),((sIx n n hi:Nat):Int)):=by
 have h1:¬ ((1:Int)<0):=by omega
 unfold Builtin.Slice.sliceAdjust;simp only[h1,if_false];refine Prod.ext ?_ ?_
 ·cases lo with
  | none=>rfl
  | some v=>exact Zbj v n 0
 ·cases hi with
  | none=>rfl
  | some v=>exact Zbj v n n
theorem Z9n (i j:Nat):Builtin.Slice.slicePlaces (i:Int) (j:Int) 1=j-i:=by
 unfold Builtin.Slice.slicePlaces;have h1:(1:Int)>0:=by omega
 simp only[h1,if_true,Int.ediv_one]
 split<;>omega
theorem Z5K {v:Value}{o:Option Int}{Q:Option Int->Shared->Prop}(p:IsPart v o)(h:Q o s):wpAny (model prog w) A (Builtin.Slice.slicePartIndex v) Q E s:=by
 cases p with
 | none=>exact slicePart_none h
 | int i t=>exact slicePart_int h
theorem Z4p {sl:Addr}{vl vu:Value}{lo hi:Option Int}{n:Nat}{Q:Int×Int×Nat->Shared->Prop}(hs:s.heap.IsSliceOf sl vl vu .none)(pl:IsPart vl lo)(pu:IsPart vu hi)
  (h:Q (((sIx n 0 lo:Nat):Int),1,sIx n n hi-sIx n 0 lo) s):wpAny (model prog w) A (Builtin.Slice.sliceApplied (.ref sl) (pure (n:Int))) Q E s:=by
 obtain⟨os,hos,hcs,hds⟩:=id hs;unfold Builtin.Slice.sliceApplied Builtin.Slice.sliceFields;refine wpAny_bind (wpAny_bind (wpAny_field hos hds (x:=vl) rfl (wpAny_bind (wpAny_field hos hds (x:=vu) rfl (wpAny_bind (wpAny_field hos hds (x:=.none) rfl (wpAny_pure ?_)))))));refine wpAny_bind (slicePart_none ?_);show wpAny _ _ (if ((1:Int)==0)=true then _ else _) _ _ s;rw[if_neg (by decide)];refine wpAny_bind (Z5K pl (wpAny_bind (Z5K pu (wpAny_bind (wpAny_pure ?_)))));show wpAny _ _ (match Builtin.Slice.sliceAdjust lo hi 1 (n:Int) with|(lo,hi)=>pure (lo,(1:Int),Builtin.Slice.slicePlaces lo hi 1)) _ _ s;rw[Z9U lo hi n];show wpAny _ _ (pure (((sIx n 0 lo:Nat):Int),(1:Int),Builtin.Slice.slicePlaces ((sIx n 0 lo:Nat):Int) ((sIx n n hi:Nat):Int) 1)) _ _ s;rw[Z9n];exact wpAny_pure h
theorem ZdF (xs:Array Value)(i k:Nat):((Y03 k).filterMap fun (m:Nat)=>xs[((i:Int)+(m:Int)*1).toNat]?).toArray=((xs.toList.drop i).take k).toArray:=by
 have e:(fun (m:Nat)=>xs[((i:Int)+(m:Int)*1).toNat]?)=fun m=>xs[i+m]?:=by
  funext m;have:((i:Int)+(m:Int)*1).toNat=i+m:=by omega
  rw[this]
 rw[e];have:=pick_run xs i k;rw[List.filterMap_map]at this;have e2:((fun x=>xs[x]?) ∘ fun x=>i+x)=fun m=>xs[i+m]?:=rfl;rw[e2]at this;rw[this]
theorem getItem_tuple_cut {t sl:Addr}{items:Array Value}{vl vu:Value}{lo hi:Option Int}{Q:Value->Shared->Prop}(ht:IsTup s.heap t items)(hs:s.heap.IsSliceOf sl vl vu .none)(pl:IsPart vl lo)(pu:IsPart vu hi)
  (hw:¬ (sIx items.size 0 lo=0/\sIx items.size items.size hi=items.size))
  (h:Q (.ref s.heap.objs.size) { s with heap:=s.heap.push { cls:=.type "tuple",data:=.seq ((items.toList.drop (sIx items.size 0 lo)).take (sIx items.size items.size hi-sIx items.size 0 lo)).toArray } })
  (hsz:items.size<=sizeLine):wpAny (model prog w) A (getItem (.ref t) (.ref sl)) Q E s:=by
 have htake:sizeOk (.seq ((items.toList.drop (sIx items.size 0 lo)).take (sIx items.size items.size hi-sIx items.size 0 lo)).toArray):=by
  show ((items.toList.drop (sIx items.size 0 lo)).take (sIx items.size items.size hi-sIx items.size 0 lo)).toArray.size<=sizeLine;rw[Y0e,Y1m,List.length_drop,Y2n];omega
 have hj:sIx items.size items.size hi<=items.size:=Zg0 _ _ (Y04 _) hi;obtain⟨os,hos,hcs,hds⟩:=id hs;have hTs:s.TypeIs (.ref sl) "slice":=⟨os,hos,hcs⟩;unfold getItem
 try with_reducible refine wpAny_holding ?_
 first|refine wpAny_bind (wpAny_pure ?_)|skip
 refine wpAny_bind (wpAny_sequenceKey ht.typeIs (by decide) ?_);refine wpAny_bind (wpAny_callSpecial?_slot (name:=Str.ofString "__getitem__") ht.typeIs PyProof.Rows.slot_tuple_getitem
  (wpAny_call_entry PyProof.Rows.slot_tuple_getitem ht.typeIs entry_tuple_getitem ?_ (args_tuple_getitem _ _)))
 show wpAny _ _ (Builtin.Tuple.tupleItemsOf (.ref t) >>= _) _ _ s;refine wpAny_bind (tupleItemsOf_ ht ?_);refine wpAny_bind (wpAny_typeOf hTs ?_);rw[if_pos (by decide)];refine wpAny_bind (Z4p hs pl pu ?_);have hno:¬ ((((sIx items.size 0 lo:Nat):Int)==0&&(1:Int)==1&&(sIx items.size items.size hi-sIx items.size 0 lo)==items.size)=true):=by
  intro q;rw[Y2p,Y2p]at q;have q1:((sIx items.size 0 lo:Nat):Int)=0:=eq_of_beq q.1.1;have q2:sIx items.size items.size hi-sIx items.size 0 lo=items.size:=eq_of_beq q.2;exact hw ⟨by omega,by omega⟩
 show wpAny _ _ (if (((sIx items.size 0 lo:Nat):Int)==0&&(1:Int)==1&&(sIx items.size items.size hi-sIx items.size 0 lo)==items.size)=true then _ else _) _ _ s;rw[if_neg hno,ZdF]
 first
  | exact wpAny_bind (m:=Builtin.Tuple.tupleExact _) (wpAny_newObj_type (wpAny_pure ⟨_,rfl,wpAny_pure h⟩) htake)
  | exact wpAny_bind (m:=Builtin.Tuple.tupleExact _) (wpAny_newObj_type (wpAny_bind (wpAny_pure (wpAny_pure ⟨_,rfl,wpAny_pure h⟩))) htake)
  | exact wpAny_bind (wpAny_bind (m:=Builtin.Tuple.tupleExact _) (wpAny_newObj_type (wpAny_pure (wpAny_pure ⟨_,rfl,wpAny_pure h⟩)) htake))
  | exact wpAny_bind (wpAny_bind (m:=Builtin.Tuple.tupleExact _) (wpAny_newObj_type (wpAny_pure ⟨_,rfl,wpAny_pure h⟩) htake))
end
end HT
namespace L2
open PySem PySem.Spec PyProof.Rows
noncomputable abbrev TO:=St->Hp->(Option Int->Hp->Prop)->Prop
def PO (X:Cx)(e:Option Expr)(t:TO):Prop:=
 ∀ (pins:List (Addr×Obj)) (s:Shared) (σ:St) (H:Hp) (Q:Option Int->Hp->Prop),Inv X pins σ H s->t σ H Q->
  wpAny (model X.prog X.w) X.A (evalPart e X.env) (fun u s'=>∃ o H',Inv X pins σ H' s'/\IsPart u o/\Q o H') X.xe s
noncomputable def ZaU:TO:=fun _ H Q=>Q none H
noncomputable def ZfV (t:TE):TO:=fun σ H Q=>t σ H fun x H1=>∃ i,x=.int i/\Q (some i) H1
theorem Z9q {ns:List Int}:∀ {us:List Value},ZT (ns.map V.int) us->IntsAre us ns:=by
 induction ns with
 | nil=>intro us r;rw[Y3m]at r;cases r;exact .nil
 | cons n ns ih=>
  intro us r;rw[Y0w]at r;cases r with
  | cons r1 r2=>
   obtain⟨t,e⟩:=r1;subst e;exact .cons n t (ih r2)
section
variable {X:Cx}{e:Expr}{te:TE}{lo hi:Option Expr}{tl th:TO}{pos p2:Pos}
theorem Uq:PO X none ZaU:=by
 intro pins s σ H Q I h;rw[evalPart_none];exact wpAny_pure ⟨none,H,I,.none,h⟩
theorem Ux (h:PE X e te):PO X (some e) (ZfV te):=by
 intro pins s σ H Q I hw;rw[evalPart_some];refine thn (h pins s σ H _ I hw) fun u s1 ⟨x,H1,I1,r1,q1⟩=>?_;obtain⟨i,rfl,q⟩:=q1;obtain⟨t,rfl⟩:=r1;exact⟨some i,H1,I1,.int i t,q⟩
def SlR (X:Cx)(r:V->Option Int->Option Int->Hp->VK->Prop):Prop:=
 ∀ (pins:List (Addr×Obj)) (s:Shared) (σ:St) (H:Hp) (x:V) (v vl vu:Value) (lo hi:Option Int) (sl:Addr) (Q:VK),Inv X pins σ H s->ZI x v->s.heap.IsSliceOf sl vl vu .none->IsPart vl lo->IsPart vu hi->r x lo hi H Q->
  ∃ T id,typeLookup (.type T) "__getitem__"=pure (some (.builtin id))/\s.TypeIs v T/\wpAny (model X.prog X.w) X.A (getItem v (.ref sl)) (EP X pins σ Q) X.xe s
def tSl (r:V->Option Int->Option Int->Hp->VK->Prop)(te:TE)(tl th:TO):TE:=fun σ H Q=>te σ H fun x H1=>tl σ H1 fun l H2=>th σ H2 fun u H3=>r x l u H3 Q
theorem UM {r:V->Option Int->Option Int->Hp->VK->Prop}(hr:SlR X r)(he:PE X e te)(hl:PO X lo tl)(hu:PO X hi th):PE X (.Subscript e (.Slice lo hi none p2) pos) (tSl r te tl th):=by
 intro pins s σ H Q I h;refine Subscript_ (thn (he pins s σ H _ I h) fun v s1 ⟨x,H1,I1,r1,q1⟩=>?_);refine wpAny_Slice (thn (hl pins s1 σ H1 _ I1 q1) fun vl s2 ⟨l,H2,I2,pl,q2⟩=>thn (hu pins s2 σ H2 _ I2 q2) fun vu s3 ⟨u,H3,I3,pu,q3⟩=>?_);rw[evalPart_none];refine wpAny_pure ?_;have I4:Inv X pins σ H3 { s3 with heap:=s3.heap.push { cls:=.type "slice",data:=.fields #[vl,vu,.none] } }:=I3.kept (t':=s3.toks) fun b ob q=>Y02 _ q;obtain⟨T,id,hT,ht,hg⟩:=hr pins { s3 with heap:=s3.heap.push { cls:=.type "slice",data:=.fields #[vl,vu,.none] } } σ H3 x v vl vu l u s3.heap.objs.size Q I4 r1 (Heap.IsSliceOf.new ..) pl pu q3;show wpAny (model X.prog X.w) X.A (subscriptTail e (.Slice lo hi none p2) v (.ref s3.heap.objs.size)) (EP X pins σ Q) X.xe { s3 with heap:=s3.heap.push { cls:=.type "slice",data:=.fields #[vl,vu,.none] } };exact tail_any (ops:=[.ref s3.heap.objs.size,v]) ht hT hg (by with_unfolding_all rfl)
noncomputable def Yi (xs:List V)(lo hi:Option Int):List V:=(xs.drop (HT.sIx xs.length 0 lo)).take (HT.sIx xs.length xs.length hi-HT.sIx xs.length 0 lo)
theorem Z4X (xs:List V)(lo hi:Option Int):(Yi xs lo hi).length<=xs.length:=by
 unfold Yi;rw[Y1m,List.length_drop];omega
def rSlT (K:Y00):V->Option Int->Option Int->Hp->VK->Prop:=fun x lo hi H Q=>∃ a xs,x=.ref a/\SqT K H a xs/\
 ¬ (HT.sIx xs.length 0 lo=0/\HT.sIx xs.length xs.length hi=xs.length)/\∀ p,H p=none->Q (.ref p) (upd H p (.tup (Yi xs lo hi)))
theorem Zh7:SlR X (rSlT X.K):=by
 intro pins s σ H x v vl vu lo hi sl Q I rx hs pl pu h;obtain⟨a,xs,rfl,hx,hw,q⟩:=h;cases rx;obtain⟨its,r,ht,hz⟩:=I.tuple hx;have hlen:its.toArray.size=xs.length:=by rw[Y0e];exact r.length.symm
 refine⟨"tuple",_,PyProof.Rows.slot_tuple_getitem.lookup,ht.typeIs,?_⟩;refine HT.getItem_tuple_cut ht hs pl pu (by rw[hlen];exact hw) ?_ (by rw[hlen];exact hz);rw[hlen];refine⟨.ref s.heap.objs.size,_,I.laid (t':=s.toks) (o:=.tup (Yi xs lo hi)) (fun b ob q=>Y02 _ q) (Y04 _) ?_,rfl,q _ (I.hok.fresh (Y04 _))⟩;exact⟨⟨Y1c (Z4X xs lo hi) hz,_,Y06 _ rfl,rfl⟩,_,(r.drop (HT.sIx xs.length 0 lo)).take (HT.sIx xs.length xs.length hi-HT.sIx xs.length 0 lo),IsTup.new _ _⟩
end
noncomputable def ixN (n:Nat)(i:Int):Option Nat:=if 0<=i then (if i<n then some i.toNat else none) else if -(n:Int)<=i then some (i+n).toNat else none
noncomputable def atI {α:Type}(xs:List α)(i:Int):Option α:=(ixN xs.length i).bind fun j=>xs[j]?
theorem Zam {n:Nat}{i:Int}{j:Nat}(h:ixN n i=some j):seqIndex? i n=some j/\j<n/\-(n:Int)<=i/\i<n:=by
 unfold ixN at h
 by_cases h0:0<=i
 ·rw[if_pos h0]at h
  by_cases h1:i<n
  ·rw[if_pos h1]at h;have e:i.toNat=j:=Option.some.inj h;exact⟨by rw[seqIndex_of h0 h1,e],by omega,by omega,h1⟩
  ·rw[if_neg h1]at h;cases h
 ·rw[if_neg h0]at h
  by_cases h1:-(n:Int)<=i
  ·rw[if_pos h1]at h;have e:(i+n).toNat=j:=Option.some.inj h;exact⟨by rw[seqIndex_neg (by omega) h1,e],by omega,h1,by omega⟩
  ·rw[if_neg h1]at h;cases h
theorem Z7N {α:Type}{xs:List α}{i:Int}{v:α}(h:atI xs i=some v):∃ j,seqIndex? i xs.length=some j/\xs[j]?=some v/\j<xs.length/\-(xs.length:Int)<=i/\i<xs.length:=by
 unfold atI at h;cases e:ixN xs.length i with
 | none=>rw[e]at h;cases h
 | some j=>
  rw[e]at h;obtain⟨h1,h2,h3,h4⟩:=Zam e;exact⟨j,h1,h,h2,h3,h4⟩
theorem ZV {α:Type}{xs:List α}{j:Nat}{v:α}(h:xs[j]?=some v):atI xs (j:Int)=some v:=by
 have hj:j<xs.length:=(Y07.mp h).1;have e:ixN xs.length (j:Int)=some j:=by
  unfold ixN;rw[if_pos (by omega),if_pos (by omega)];simp
 unfold atI;rw[e];exact h
def Zf4 (b:Expr):Prop:=∀ o i,subscripted b false o i=operate [o,i] (getItem o i)
def IxR (X:Cx)(r:R2):Prop:=
 ∀ (value slice:Expr) (pins:List (Addr×Obj)) (s:Shared) (σ:St) (H:Hp) (x y:V) (v u:Value) (Q:VK),Inv X pins σ H s->ZI x v->ZI y u->r x y H Q->
  subscripted slice false v u=operate [v,u] (getItem v u)->wpAny (model X.prog X.w) X.A (subscriptTail value slice v u) (EP X pins σ Q) X.xe s
def MtR (X:Cx)(id:String)(r:V->List V->Hp->VK->Prop):Prop:=
 ∀ (pins:List (Addr×Obj)) (s:Shared) (σ:St) (H:Hp) (x:V) (xs:List V) (v:Value) (us:List Value) (Q:VK),Inv X pins σ H s->ZI x v->ZT xs us->r x xs H Q->
  wpAny (model X.prog X.w) X.A (call (.builtin id) (v::us)) (EP X pins σ Q) X.xe s
section
variable {X:Cx}{a b:Expr}{ta tb:TE}{pos:Pos}
theorem IxR.or {r r':R2}(h:IxR X r)(h':IxR X r'):IxR X (fun x y H Q=>r x y H Q\/r' x y H Q):=by
 intro value slice pins s σ H x y v u Q I rx ry q hs;rcases q with q|q
 ·exact h value slice pins s σ H x y v u Q I rx ry q hs
 ·exact h' value slice pins s σ H x y v u Q I rx ry q hs
theorem ZY {r:R2}(hr:IxR X r)(ha:PE X a ta)(hb:PE X b tb)(hs:Zf4 b):PE X (.Subscript a b pos) (tOp r ta tb):=by
 intro pins s σ H Q I h;exact Subscript_ (Zip ha hb I h fun v u s2 x y H2 I2 rx ry q=>hr a b pins s2 σ H2 x y v u Q I2 rx ry q (hs _ _))
noncomputable def WQ (K:Y00):R2:=fun x y H Q=>∃ p xs i v,x=.ref p/\y=.int i/\SqL K H p xs/\atI xs i=some v/\Q v H
noncomputable def Yp (K:Y00):R2:=fun x y H Q=>∃ p xs i v,x=.ref p/\y=.int i/\SqT K H p xs/\atI xs i=some v/\Q v H
noncomputable def Xd:R2:=fun x y H Q=>∃ z i c,x=.str z/\y=.int i/\z.length<=sizeLine/\atI z.cps.toList i=some c/\Q (.str ⟨#[c]⟩) H
theorem Zs:IxR X (WQ X.K):=by
 intro value slice pins s σ H x y v u Q I rx ry h hs;obtain⟨p,xs,i,z,rfl,rfl,hq,he,q⟩:=h;cases rx;obtain⟨t,rfl⟩:=ry;obtain⟨its,r,pl,hz⟩:=I.list hq;obtain⟨j,h1,h2,h3,h4,h5⟩:=Z7N he;obtain⟨w,ew,rw'⟩:=r.get h2;have hl:=r.length;have hn:=VA;have fin:EP X pins σ Q w s:=⟨z,H,I,rw',q⟩
 by_cases h0:0<=i
 ·have hj:i.toNat=j:=by
   rw[seqIndex_of h0 h5]at h1;exact Option.some.inj h1
  exact item_listR pl.isList h0 (by omega) (by rw[hj];simpa using ew) fin hs
 ·have hj:(i+(its.toArray.size:Int)).toNat=j:=by
   rw[seqIndex_neg (by omega) h4]at h1;rw[Y0e,<-hl];exact Option.some.inj h1
  exact subscriptTail_builtinR (x:=w) pl.isList.typeIs slot_list_getitem.lookup
   (wpAny_getItem_list_neg (Q:=fun r s'=>r=w/\EP X pins σ Q r s') pl.isList (by omega) (by rw[Y0e]<;>omega) (by omega) (by rw[hj];simpa using ew) ⟨rfl,fin⟩) hs
theorem ZA:IxR X (Yp X.K):=by
 intro value slice pins s σ H x y v u Q I rx ry h hs;obtain⟨p,xs,i,z,rfl,rfl,hq,he,q⟩:=h;cases rx;obtain⟨t,rfl⟩:=ry;obtain⟨its,r,pl,hz⟩:=I.tuple hq;obtain⟨j,h1,h2,h3,h4,h5⟩:=Z7N he;obtain⟨w,ew,rw'⟩:=r.get h2;have hl:=r.length;have hn:=VA;have fin:EP X pins σ Q w s:=⟨z,H,I,rw',q⟩;exact subscriptTail_builtinR (x:=w) pl.typeIs slot_tuple_getitem.lookup
  (getItem_tuple (j:=j) (Q:=fun r s'=>r=w/\EP X pins σ Q r s') pl (by omega) (by omega) (by rw[Y0e,<-hl];exact h1) (by simpa using ew) ⟨rfl,fin⟩) hs
theorem Vt:IxR X Xd:=by
 intro value slice pins s σ H x y v u Q I rx ry h hs;obtain⟨z,i,c,rfl,rfl,hz,he,q⟩:=h;obtain⟨t,rfl⟩:=rx;obtain⟨t',rfl⟩:=ry;obtain⟨j,h1,h2,h3,h4,h5⟩:=Z7N he;have hl:z.cps.toList.length=z.length:=by simp[Str.length]
 rw[hl]at h1 h4 h5;have hn:=VA;exact tail_any (typeIs_str s z t) slot_str_getitem.lookup (getItem_str (c:=c) (by
  have e1:decide (i < -(2^63:Int))=false:=decide_eq_false (by omega)
  have e2:decide (i≥2^63)=false:=decide_eq_false (by omega)
  rw[e1,e2,Bool.or_false]) (by rw[h1];simpa using h2) ⟨.str ⟨#[c]⟩,H,I.tok _,⟨_,rfl⟩,q⟩) hs
noncomputable def rIx (K:Y00):R2:=fun x y H Q=>WQ K x y H Q\/Yp K x y H Q\/Xd x y H Q
theorem Vu:IxR X (rIx X.K):=Zs.or (ZA.or Vt)
theorem Z9O (its:List Value)(n j:Nat)(u:Value):Obj.mapSeq (·.setIfInBounds j u) { cls:=.type "list",data:=.seq its.toArray n }={ cls:=.type "list",data:=.seq (its.set j u).toArray n }:=by
 simp[Obj.mapSeq]
theorem Inv.lst {pins:List (Addr×Obj)}{σ:St}{H:Hp}{s:Shared}{p:Addr}{xs:List V}(I:Inv X pins σ H s)(h:H p=some (.lst xs)) :
  ∃ (its:List Value) (n:Nat),ZT xs its/\s.heap.get? p=some { cls:=.type "list",data:=.seq its.toArray n }/\xs.length<=sizeLine:=by
 obtain⟨z,its,n,r,e⟩:=I.hok p _ h;exact⟨its,n,r,e,z⟩
theorem Inv.lstUpd {pins:List (Addr×Obj)}{σ:St}{H:Hp}{s:Shared}{p:Addr}{xs ys:List V}{its its':List Value}{n n':Nat}{f:Obj->Obj}(I:Inv X pins σ H s)(h:H p=some (.lst xs))
  (ho:s.heap.get? p=some { cls:=.type "list",data:=.seq its.toArray n }) (hf:f { cls:=.type "list",data:=.seq its.toArray n }={ cls:=.type "list",data:=.seq its'.toArray n' }) (r:ZT ys its') (hz:ys.length<=sizeLine) (t:Nat) :
  Inv X pins σ (upd H p (.lst ys)) { s with heap:=s.heap.update p f,toks:=t }:=by
 have e:(s.heap.update p f).get? p=some { cls:=.type "list",data:=.seq its'.toArray n' }:=by
  rw[Y27 f ho (by rw[hf]<;>rfl),hf]
 refine I.write (x:=p) (e:=p) (by rw[h];trivial) (.inl rfl) (fun b u hb q=>(Y1f _ _ (Ne.symm hb)).trans q) ⟨_,e⟩ ?_;exact⟨hz,its',n',r,e⟩
def ZgC:V->V->V->Hp->(Hp->Prop)->Prop:=fun o i v H Q=>∃ p xs k j,o=.ref p/\i=.int k/\H p=some (.lst xs)/\ixN xs.length k=some j/\Q (upd H p (.lst (xs.set j v)))
theorem Zcz:PSet X ZgC:=by
 intro pins s σ H o i v ov iv u Q I ro ri rv h;obtain⟨p,xs,k,j,rfl,rfl,hp,hj,q⟩:=h;cases ro;obtain⟨t,rfl⟩:=ri;obtain⟨its,n,r,ho,hz⟩:=I.lst hp;obtain⟨h1,h2,h3,h4⟩:=Zam hj;have hl:=r.length;have hn:=VA;have I':Inv X pins σ (upd H p (.lst (xs.set j v))) { s with heap:=s.heap.update p (Obj.mapSeq (·.setIfInBounds j u)) }:=
  I.lstUpd hp ho (Z9O its n j u) (r.set rv j) (by rw[List.length_set];exact hz) s.toks
 by_cases h0:0<=k
 ·have hk:k.toNat=j:=by
   rw[seqIndex_of h0 h4]at h1;exact Option.some.inj h1
  exact PySem.W.ki_setAt ho h0 (by omega) (by rw[Y0e,<-hl];exact h4) (by rw[hk];exact⟨_,I',q⟩)
 ·have hk:(k+(its.toArray.size:Int)).toNat=j:=by
   rw[seqIndex_neg (by omega) h3]at h1;rw[Y0e,<-hl];exact Option.some.inj h1
  exact PySem.W.ki_setBack ho (by omega) (by rw[Y0e,<-hl];exact h3) (by omega) (by rw[hk];exact⟨_,I',q⟩)
theorem Z6Z (lo hi:Option Int)(n:Nat):(sliceBounds lo hi none n).1=((HT.sIx n 0 lo:Nat):Int)/\(sliceBounds lo hi none n).2.1=((HT.sIx n n hi:Nat):Int)/\(sliceBounds lo hi none n).2.2=1:=by
 refine⟨?_,?_,rfl⟩
 ·cases lo with
  | none=>simp[sliceBounds,HT.sIx]
  | some i=>
   simp only[sliceBounds,HT.sIx,Option.getD_none,show (1:Int)>0 by decide,if_true]
   by_cases h:i<0
   ·simp only[h,if_true]<;>omega
   ·simp only[h,if_false]<;>omega
 ·cases hi with
  | none=>simp[sliceBounds,HT.sIx]
  | some i=>
   simp only[sliceBounds,HT.sIx,Option.getD_none,show (1:Int)>0 by decide,if_true]
   by_cases h:i<0
   ·simp only[h,if_true]<;>omega
   ·simp only[h,if_false]<;>omega
theorem Z61 (its:List Value)(lo hi:Option Int):slicePick its.toArray lo hi none=((its.drop (HT.sIx its.length 0 lo)).take (HT.sIx its.length its.length hi-HT.sIx its.length 0 lo)).toArray:=by
 obtain⟨h1,h2,h3⟩:=Z6Z lo hi its.toArray.size;unfold slicePick;rw[h1,h2,h3];simp only[sliceRange_one,pick_run,Y0e]<;>rfl
def rSlL (K:Y00):V->Option Int->Option Int->Hp->VK->Prop:=fun x lo hi H Q=>∃ a xs,x=.ref a/\SqL K H a xs/\∀ p,H p=none->Q (.ref p) (upd H p (.lst (Yi xs lo hi)))
theorem Z8i:SlR X (rSlL X.K):=by
 intro pins s σ H x v vl vu lo hi sl Q I rx hs pl pu h;obtain⟨a,xs,rfl,hx,q⟩:=h;cases rx;obtain⟨its,r,ht,hz⟩:=I.list hx;have hlen:=r.length;refine⟨"list",_,slot_list_getitem.lookup,ht.isList.typeIs,?_⟩;refine wpAny_getItem_list_slice ht.isList hs pl pu .none (by simp) ?_ (by rw[Y0e]<;>omega);rw[Z61,<-hlen];refine⟨.ref s.heap.objs.size,_,I.laid (t':=s.toks) (o:=.lst (Yi xs lo hi)) (fun b ob q=>Y02 _ q) (Y04 _) ?_,rfl,q _ (I.hok.fresh (Y04 _))⟩;exact⟨Y1c (Z4X xs lo hi) hz,_,0,(r.drop (HT.sIx xs.length 0 lo)).take (HT.sIx xs.length xs.length hi-HT.sIx xs.length 0 lo),Y06 _ rfl⟩
noncomputable def Xw:V->Bool
 | .non=>true
 | .bl _=>true
 | .int _=>true
 | .str _=>true
 | _=>false
noncomputable def eqV:V->V->Bool
 | .non,.non=>true
 | .bl a,.bl b=>a==b
 | .bl a,.int b=>(if a then 1 else 0)==b
 | .int a,.bl b=>a==(if b then 1 else 0)
 | .int a,.int b=>a==b
 | .str a,.str b=>a==b
 | _,_=>false
theorem Zgn {A:Around}{s:Shared}{y x:V}{u v:Value}(ry:ZI y u)(rx:ZI x v)(fy:Xw y=true)(fx:Xw x=true):SeqAt.EqAt A s u v (eqV y x):=by
 cases y with
 | non=>
  cases ry;cases x with
  | non=>cases rx;exact SeqAt.EqAt.same _
  | bl b=>cases rx;exact SeqAt.EqAt.none_bool b
  | int b=>obtain⟨t,rfl⟩:=rx;exact SeqAt.EqAt.none_int b t
  | str b=>obtain⟨t,rfl⟩:=rx;exact SeqAt.EqAt.none_str b t
  | _=>exact absurd (show false=true from fx) Y0g
 | bl a=>
  cases ry;cases x with
  | non=>cases rx;exact SeqAt.EqAt.bool_none a
  | bl b=>cases rx;exact SeqAt.EqAt.bool_bool a b
  | int b=>obtain⟨t,rfl⟩:=rx;exact SeqAt.EqAt.bool_int a b t
  | str b=>obtain⟨t,rfl⟩:=rx;exact SeqAt.EqAt.bool_str a b t
  | _=>exact absurd (show false=true from fx) Y0g
 | int a=>
  obtain⟨t',rfl⟩:=ry;cases x with
  | non=>cases rx;exact SeqAt.EqAt.int_none a t'
  | bl b=>cases rx;exact SeqAt.EqAt.int_bool a t' b
  | int b=>obtain⟨t,rfl⟩:=rx;exact SeqAt.EqAt.int_int a t' b t
  | str b=>obtain⟨t,rfl⟩:=rx;exact SeqAt.EqAt.int_str a t' b t
  | _=>exact absurd (show false=true from fx) Y0g
 | str a=>
  obtain⟨t',rfl⟩:=ry;cases x with
  | non=>cases rx;exact SeqAt.EqAt.str_none a t'
  | bl b=>cases rx;exact SeqAt.EqAt.str_bool a t' b
  | int b=>obtain⟨t,rfl⟩:=rx;exact SeqAt.EqAt.str_int a t' b t
  | str b=>obtain⟨t,rfl⟩:=rx;exact SeqAt.EqAt.str_str a t' b t
  | _=>exact absurd (show false=true from fx) Y0g
 | _=>exact absurd (show false=true from fy) Y0g
noncomputable def eqU (x:V)(u:Value):Bool:=match u with
 | .none=>eqV .non x
 | .bool b=>eqV (.bl b) x
 | .int i _=>eqV (.int i) x
 | .str z _=>eqV (.str z) x
 | _=>false
theorem Zeq {x y:V}{u:Value}(r:ZI y u)(f:Xw y=true):eqU x u=eqV y x:=by
 cases y with
 | non=>cases r;rfl
 | bl b=>cases r;rfl
 | int i=>obtain⟨t,rfl⟩:=r;rfl
 | str z=>obtain⟨t,rfl⟩:=r;rfl
 | _=>exact absurd (show false=true from f) Y0g
theorem Uu {x:V}:∀ {xs:List V} {us:List Value},ZT xs us->xs.all Xw=true->us.any (eqU x)=xs.any fun y=>eqV y x
 | _,_,.nil,_=>rfl
 | y::xs,u::us,.cons r t,f=>by
  rw[List.all_cons,Y2p]at f;rw[Y3p,Y3p,Zeq r f.1,Uu t f.2]
theorem UN {A:Around}{s:Shared}{x:V}{v:Value}(rx:ZI x v)(fx:Xw x=true):∀ {xs:List V} {us:List Value},ZT xs us->xs.all Xw=true->∀ u∈us,SeqAt.EqAt A s u v (eqU x u)
 | _,_,.nil,_=>fun u hu=>by cases hu
 | y::xs,u::us,.cons r t,f=>fun u' hu=>by
  rw[List.all_cons,Y2p]at f;rcases Y0k.mp hu with rfl|hu
  ·rw[Zeq r f.1];exact Zgn r rx f.1 fx
  ·exact UN rx fx t f.2 u' hu
noncomputable def inV (x:V)(xs:List V):Bool:=xs.any fun y=>eqV y x
noncomputable def rIn (K:Y00)(neg:Bool):R2:=fun x y H Q=>∃ p xs,y=.ref p/\(SqL K H p xs\/SqT K H p xs)/\Xw x=true/\xs.all Xw=true/\Q (.bl (if neg then !inV x xs else inV x xs)) H
theorem UW:OpR X (compareOp .In) (rIn X.K false):=by
 intro pins s σ H x y v u Q I rx ry h;obtain⟨p,xs,rfl,hq,fx,fs,q⟩:=h;cases ry;rcases hq with hq|hq
 ·obtain⟨its,r,pl,hz⟩:=I.list hq;refine SeqAt.in_listAt (eqU x) pl.isList (fun w hw=>UN rx fx r fs w (by simpa using hw)) ⟨.bl _,H,I,rfl,?_⟩;rw[show its.toArray.any (eqU x)=its.any (eqU x) by simp,Uu r fs];exact q
 ·obtain⟨its,r,pl,hz⟩:=I.tuple hq;refine SeqAt.in_tupleAt (eqU x) pl (fun w hw=>UN rx fx r fs w (by simpa using hw)) ⟨.bl _,H,I,rfl,?_⟩;rw[show its.toArray.any (eqU x)=its.any (eqU x) by simp,Uu r fs];exact q
theorem Z2F:OpR X (compareOp .NotIn) (rIn X.K true):=by
 intro pins s σ H x y v u Q I rx ry h;obtain⟨p,xs,rfl,hq,fx,fs,q⟩:=h;cases ry;rcases hq with hq|hq
 ·obtain⟨its,r,pl,hz⟩:=I.list hq;refine SeqAt.notIn_listAt (eqU x) pl.isList (fun w hw=>UN rx fx r fs w (by simpa using hw)) ⟨.bl _,H,I,rfl,?_⟩;rw[show its.toArray.any (eqU x)=its.any (eqU x) by simp,Uu r fs];exact q
 ·obtain⟨its,r,pl,hz⟩:=I.tuple hq;refine SeqAt.notIn_tupleAt (eqU x) pl (fun w hw=>UN rx fx r fs w (by simpa using hw)) ⟨.bl _,H,I,rfl,?_⟩;rw[show its.toArray.any (eqU x)=its.any (eqU x) by simp,Uu r fs];exact q
theorem Zk:YM X (.builtin "len") (fun xs H Q=>∃ p ys,xs=[.ref p]/\(SqL X.K H p ys\/SqT X.K H p ys)/\Q (.int ys.length) H):=by
 intro pins s σ H xs us Q I r h;obtain⟨p,ys,rfl,hq,q⟩:=h;obtain⟨u,rfl,rx⟩:=YE r;cases rx;have hn:=VA;rcases hq with hq|hq
 ·obtain⟨its,r',pl,hz⟩:=I.list hq;have hlen:=r'.length;exact Calls.call_len_list pl.isList (by simp only[Y0e]<;>omega) ⟨.int ys.length,H,I.tok _,⟨s.toks+1,by rw[Y0e,hlen]⟩,q⟩
 ·obtain⟨its,r',pl,hz⟩:=I.tuple hq;have hlen:=r'.length;exact len_tuple pl (by simp only[Y0e]<;>omega) ⟨.int ys.length,H,I.tok _,⟨s.toks+1,by rw[Y0e,hlen]⟩,q⟩
theorem U4:YM X (.builtin "len") (fun xs H Q=>∃ z,xs=[.str z]/\z.length<=sizeLine/\Q (.int z.length) H):=by
 intro pins s σ H xs us Q I r h;obtain⟨z,rfl,hz,q⟩:=h;obtain⟨u,rfl,t,rfl⟩:=YE r;have hn:=VA;exact len_str (by omega) ⟨.int z.length,H,I.tok _,⟨_,rfl⟩,q⟩
theorem Z6E:YM X (.type "list") (fun xs H Q=>∃ p ys,xs=[.ref p]/\(SqL X.K H p ys\/SqT X.K H p ys)/\∀ l,H l=none->Q (.ref l) (upd H l (.lst ys))):=by
 intro pins s σ H xs us Q I r h;obtain⟨p,ys,rfl,hq,q⟩:=h;obtain⟨u,rfl,rx⟩:=YE r;cases rx;have fin:∀ (its:List Value),ZT ys its->ys.length<=sizeLine->∀ (h':Heap) (c':Nat),(∀ b o',s.heap.get? b=some o'->h'.get? b=some o')->
   h'.get? s.heap.objs.size=some { cls:=.type "list",dict:=none,data:=.seq its.toArray c',slots:=#[] }->EP X pins σ Q (.ref s.heap.objs.size) { s with heap:=h' }:=fun its r' hz h' c' kp e=>
  ⟨.ref s.heap.objs.size,_,I.laid (t':=s.toks) kp (Y04 _) (show Zi X.prog X.w _ h' _ (.lst ys) from ⟨hz,its,c',r',e⟩),rfl,q _ (I.hok.fresh (Y04 _))⟩
 rcases hq with hq|hq
 ·obtain⟨its,r',pl,hz⟩:=I.list hq;have hlen:=r'.length;obtain⟨o,ho,hc,n,hd⟩:=pl.isList;exact call_list_seq p (.inl rfl) ho hc hd (fun h' c' kp e=>fin its r' hz h' c' kp e) (by simp only[Y0e]<;>omega)
 ·obtain⟨its,r',pl,hz⟩:=I.tuple hq;have hlen:=r'.length;obtain⟨o,ho,hc,n,hd⟩:=pl;exact call_list_seq p (.inr rfl) ho hc hd (fun h' c' kp e=>fin its r' hz h' c' kp e) (by simp only[Y0e]<;>omega)
theorem XH:YM X (.type "tuple") (fun xs H Q=>∃ p ys,xs=[.ref p]/\((SqL X.K H p ys/\∀ l,H l=none->Q (.ref l) (upd H l (.tup ys)))\/(SqT X.K H p ys/\Q (.ref p) H))):=by
 intro pins s σ H xs us Q I r h;obtain⟨p,ys,rfl,h⟩:=h;obtain⟨u,rfl,rx⟩:=YE r;cases rx;rcases h with ⟨hq,q⟩|⟨hq,q⟩
 ·obtain⟨its,r',pl,hz⟩:=I.list hq;have hlen:=r'.length;refine call_tuple_list pl.isList (fun h' kp=>?_) (by simp only[Y0e]<;>omega);have I1:Inv X pins σ H { s with heap:=h' }:=I.kept (t':=s.toks) kp;have I2:Inv X pins σ (upd H h'.objs.size (.tup ys)) { s with heap:=h'.push { cls:=.type "tuple",data:=.seq its.toArray } }:=
   I1.laid (t':=s.toks) (fun b o e=>Y02 _ e) (Y04 _) (show Zi X.prog X.w _ _ _ (.tup ys) from ⟨⟨hz,_,Y06 _ rfl,rfl⟩,its,r',IsTup.new _ _⟩)
  exact⟨.ref h'.objs.size,_,I2,rfl,q _ (I1.hok.fresh (Y04 _))⟩
 ·obtain⟨its,r',pl,hz⟩:=I.tuple hq;exact call_tuple_same pl ⟨.ref p,H,I,rfl,q⟩
def tyV (K:Y00)(T:String)(x:V)(H:Hp):Prop:=match x with
 | .str _=>T="str"
 | .int _=>T="int"
 | .ref p=>(T="list"/\∃ xs,SqL K H p xs)\/(T="tuple"/\∃ o,K.lookup p=some o/\o.cls=.type "tuple"/\o.dict=none)\/
   (T="dict"/\((∃ kvs,H p=some (.dK kvs))\/∃ kvs,H p=some (.dT kvs)))\/(T="set"/\∃ S n,H p=some (.set S n))
 | _=>False
theorem ZdV {pins:List (Addr×Obj)}{σ:St}{H:Hp}{s:Shared}{T:String}{x:V}{v:Value}(I:Inv X pins σ H s)(r:ZI x v)(ty:tyV X.K T x H) :
  s.TypeIs v T/\∀ a,v=.ref a->∃ ob,s.heap.get? a=some ob/\ob.dict=none:=by
 cases x with
 | str z=>
  obtain⟨t,rfl⟩:=r;cases (show T="str" from ty);exact⟨typeIs_str s z t,fun _ e=>nomatch e⟩
 | int i=>
  obtain⟨t,rfl⟩:=r;cases (show T="int" from ty);exact⟨typeIs_int s i t,fun _ e=>nomatch e⟩
 | ref p=>
  cases r;rcases ty with ⟨rfl,xs,hq⟩|⟨rfl,o,hk,hc,hd⟩|⟨rfl,hk⟩|⟨rfl,S,n,hk⟩
  ·obtain⟨its,_,pl,_⟩:=I.list hq;refine⟨pl.isList.typeIs,fun a e=>?_⟩;cases e;obtain⟨o,n,e,c,hd,_⟩:=pl;exact⟨o,e,hd⟩
  ·refine⟨⟨o,I.kIn p o hk,hc⟩,fun a e=>?_⟩;cases e;exact⟨o,I.kIn _ o hk,hd⟩
  ·have z:∃ o,s.heap.get? p=some o/\o.ExactDict:=by
    rcases hk with ⟨kvs,hk⟩|⟨kvs,hk⟩
    ·obtain⟨_,_,_,_,o,_,_,e,ex,_⟩:=I.hok p _ hk;exact⟨o,e,ex⟩
    ·obtain⟨_,_,_,_,o,_,_,e,ex,_⟩:=I.hok p _ hk;exact⟨o,e,ex⟩
   obtain⟨o,e,ex⟩:=z;refine⟨⟨o,e,ex.1⟩,fun a e2=>?_⟩;cases e2;exact⟨o,e,ex.2.1⟩
  ·obtain⟨o,_,_,_,e,ex,_⟩:=I.hok p _ hk;refine⟨⟨o,e,ex.1⟩,fun a e2=>?_⟩;cases e2;exact⟨o,e,ex.2.1⟩
 | _=>exact False.elim ty
def tBM0 (K:Y00)(T:String)(r:V->List V->Hp->VK->Prop)(to:TE):TE:=fun σ H Q=>to σ H fun x H1=>tyV K T x H1/\r x [] H1 Q
def tBM (K:Y00)(T:String)(r:V->List V->Hp->VK->Prop)(to:TE)(t:TA):TE:=fun σ H Q=>to σ H fun x H1=>tyV K T x H1/\t σ H1 fun xs H2=>r x xs H2 Q
variable {o e:Expr}{es:List Expr}{to:TE}{t:TA}{name:Str}{apos cpos:Pos}{T id:String}{r:V->List V->Hp->VK->Prop}
theorem Zg6 (pa:PlainAttrs T)(slot:Slot T name id)(hty:typeOf (.builtin id)=pure (.type "method_descriptor"))(hm:MtR X id r)(ho:PE X o to)
  (hbase:attributeBase o name X.env (eval o X.env)=eval o X.env:=by rfl) (hline:(apos.endLine==cpos.line)=true:=by rfl):PE X (.Call (.Attribute o name apos) [] [] cpos) (tBM0 X.K T r to):=by
 intro pins s σ H Q I h;refine wpAny_Call_method0_late hbase hline (thn (ho pins s σ H _ I h) fun v s1 ⟨x,H1,I1,r1,ty,q1⟩=>?_);obtain⟨h1,h2⟩:=ZdV I1 r1 ty;exact⟨T,id,pa,slot,hty,h1,h2,Calls.callWith_builtin rfl (PySem.evalArgs_none (hm pins s1 σ H1 x [] v [] Q I1 r1 .nil q1))⟩
theorem Zg (pa:PlainAttrs T)(slot:Slot T name id)(hty:typeOf (.builtin id)=pure (.type "method_descriptor"))(hm:MtR X id r)(ho:PE X o to)(ha:PA X (e::es) t)
  (hbase:attributeBase o name X.env (eval o X.env)=eval o X.env:=by rfl)
  (hfew:((backTo cpos (starEach (e::es) X.env)).all (fun x=>!x.1)&&(backToKw cpos (keywordEach [] X.env)).all (fun x=>x.1.isSome)
   && decide ((e::es).length+([]:List Keyword).length+(if ([]:List Keyword).isEmpty then 0 else 1)<30))=true:=by rfl)
  (hline:(apos.endLine==cpos.line)=true:=by rfl) (hs:starEach (e::es) X.env=(false,eval e X.env)::starEach es X.env:=by rfl) (hplain:(backTo cpos (starEach es X.env)).any (·.1)=false:=by rfl) :
  PE X (.Call (.Attribute o name apos) (e::es) [] cpos) (tBM X.K T r to t):=by
 intro pins s σ H Q I h;refine wpAny_Call_method_late hbase hfew hline rfl (thn (ho pins s σ H _ I h) fun v s1 ⟨x,H1,I1,r1,ty,q1⟩=>?_);obtain⟨h1,h2⟩:=ZdV I1 r1 ty;refine⟨T,id,pa,slot,hty,h1,h2,?_⟩;have hA:=ha cpos pins s1 σ H1 _ I1 q1;rw[hs]at hA ⊢;refine Calls.callWith_builtin (by show (false||(backTo cpos (starEach es X.env)).any (·.1))=false;rw[hplain]<;>rfl) (Calls.evalArgs_plain ?_);exact thn hA fun us s2 ⟨vs,H2,I2,r2,q2⟩=>hm pins s2 σ H2 x vs v us Q I2 r1 r2 q2
end
def MtM (X:Cx)(id:String)(r:V->List V->Hp->VK->Prop):Prop:=
 ∀ (pins:List (Addr×Obj)) (s:Shared) (σ:St) (H:Hp) (x:V) (xs:List V) (v:Value) (us:List Value) (Q:VK),Inv X pins σ H s->ZI x v->ZT xs us->r x xs H Q->
  wpAny (model X.prog X.w) X.A (call (.builtin id) (v::us)) (EP X pins σ Q) X.xe s
theorem ZT.one:∀ {x:V} {us:List Value},ZT [x] us->∃ u,us=[u]/\ZI x u
 | _,_,.cons r .nil=>⟨_,rfl,r⟩
theorem ZT.zero:∀ {us:List Value},ZT [] us->us=[]
 | _,.nil=>rfl
theorem ZT.dropLast {xs:List V}{us:List Value}(h:ZT xs us):ZT xs.dropLast us.dropLast:=by
 induction h with
 | nil=>exact .nil
 | cons r t ih=>
  cases t with
  | nil=>exact .nil
  | cons q t'=>exact .cons r ih
theorem ZT.eraseIdx:∀ {xs:List V} {us:List Value} (i:Nat),ZT xs us->ZT (xs.eraseIdx i) (us.eraseIdx i)
 | _,_,_,.nil=>.nil
 | _,_,0,.cons _ t=>t
 | _,_,i+1,.cons r t=>.cons r (ZT.eraseIdx i t)
theorem ZT.rep {xs:List V}{us:List Value}(h:ZT xs us):∀ k:Nat,ZT (Y0p k xs).flatten (Y0p k us).flatten
 | 0=>.nil
 | k+1=>by
  rw[Y20,Y20,Y1u,Y1u];exact ZT.append h (ZT.rep h k)
theorem Z9P {α:Type}(l:List α):l.eraseIdx (l.length-1)=l.dropLast:=by
 induction l with
 | nil=>rfl
 | cons a r ih=>
  cases r with
  | nil=>rfl
  | cons b r=>
   have e:(a::b::r).length-1=((b::r).length-1)+1:=by
    have h1:(a::b::r).length=r.length+2:=rfl;have h2:(b::r).length=r.length+1:=rfl;omega
   rw[e,Y49,ih]
   all_goals rfl
theorem Z6H {α:Type}:∀ (l:List α) (i:Nat),(l.eraseIdx i).length<=l.length
 | [],_=>Y04 _
 | _::_,0=>Y2i _
 | _::r,i+1=>Nat.succ_le_succ (Z6H r i)
theorem Z6T (its:List Value):∀ (k:Nat) (acc:List Value),
  List.foldl (fun x1 x2=>x1++x2) acc.toArray (Y0p k its.toArray)=(acc++(Y0p k its).flatten).toArray
 | 0,acc=>by simp
 | k+1,acc=>by
  have e:acc.toArray++its.toArray=(acc++its).toArray:=by simp
  have e2:(acc++its)++(Y0p k its).flatten=acc++(Y0p (k+1) its).flatten:=by
   rw[Y20,Y1u,Y2c]
  rw[<-e2,<-Z6T its k (acc++its),<-e,Y20,List.foldl_cons]
section
variable {X:Cx}{pins:List (Addr×Obj)}{σ:St}{H:Hp}{s:Shared}{l b:Addr}{xs ys zs:List V}
theorem Inv.lset {its its':List Value}{n:Nat}{f:Array Value->Array Value}{t':Nat}(I:Inv X pins σ H s)(hH:H l=some (.lst xs))
  (e:s.heap.get? l=some { cls:=.type "list",data:=.seq its.toArray n }) (hf:f its.toArray=its'.toArray) (hv:ZT ys its') (hz:ys.length<=sizeLine) :
  Inv X pins σ (upd H l (.lst ys)) { s with heap:=s.heap.update l (Obj.mapSeq f),toks:=t' }:=by
 have q:=PySem.IsL.update e f;rw[hf]at q;refine I.write (x:=l) (e:=l) (by rw[hH];exact trivial) (.inl rfl) (fun b' u hb hu=>(Y1f s.heap (Obj.mapSeq f) (Ne.symm hb)).trans hu) ⟨_,q⟩ ?_;exact⟨hz,its',_,hv,q⟩
theorem Inv.lnew {its:List Value}{t':Nat}(I:Inv X pins σ H s)(hv:ZT ys its)(hz:ys.length<=sizeLine) :
  Inv X pins σ (upd H s.heap.objs.size (.lst ys)) { s with heap:=s.heap.push { cls:=.type "list",data:=.seq its.toArray },toks:=t' }:=
 I.laid (fun _ _ q=>Y02 _ q) (Y04 _) ⟨hz,its,0,hv,Y06 _ rfl⟩
theorem Inv.fresh (I:Inv X pins σ H s):H s.heap.objs.size=none:=I.hok.fresh (Y04 _)
theorem Inv.lstM (I:Inv X pins σ H s)(hH:H l=some (.lst xs)):xs.length<=sizeLine/\∃ (its:List Value) (n:Nat),ZT xs its/\xs.length=its.length/\s.heap.get? l=some { cls:=.type "list",data:=.seq its.toArray n }:=by
 obtain⟨z,its,n,r,e⟩:=I.hok l _ hH;exact⟨z,its,n,r,r.length,e⟩
theorem Zdk {n:Nat}(h:n<=sizeLine):Builtin.List.listTooLong n=false:=by
 unfold Builtin.List.listTooLong;exact decide_eq_false (by omega)
end
section
variable {X:Cx}
def Za7:V->List V->Hp->VK->Prop:=fun x vs H Q=>∃ l xs y,x=.ref l/\vs=[y]/\H l=some (.lst xs)/\xs.length<sizeLine/\Q .non (upd H l (.lst (xs++[y])))
theorem YU:MtM X "list.append" Za7:=by
 intro pins s σ H x vs v us Q I rx rv h;obtain⟨l,xs,y,rfl,rfl,hH,hz,q⟩:=h;cases rx;obtain⟨u,rfl,ru⟩:=rv.one;obtain⟨z,its,n,r,hl,e⟩:=I.lstM hH;refine call_meets F.slot_list_append ⟨_,e,rfl⟩ F.entry_list_append (F.args_list_append_2 _ _) (PySem.list_append l its.toArray n u (by rw[Y0e];omega)) ⟨e,?_⟩;refine⟨.non,_,I.lset (its':=its++[u]) hH e (by simp) (r.append (.cons ru .nil)) ?_,rfl,q⟩;rw[Y09,List.length_singleton];omega
def rPop:V->List V->Hp->VK->Prop:=fun x vs H Q=>∃ l xs y,x=.ref l/\vs=[]/\H l=some (.lst xs)/\xs[xs.length-1]?=some y/\Q y (upd H l (.lst xs.dropLast))
theorem ZgK:MtM X "list.pop" rPop:=by
 intro pins s σ H x vs v us Q I rx rv h;obtain⟨l,xs,y,rfl,rfl,hH,hy,q⟩:=h;cases rx;have hus:=rv.zero;subst hus;obtain⟨z,its,n,r,hl,e⟩:=I.lstM hH;obtain⟨u,hu,ru⟩:=r.get hy;have hy':its.toArray[its.toArray.size-1]?=some u:=by
  show its.toArray[its.length-1]?=some u;rw[<-Y2w,<-hl];exact hu
 refine call_meets F.slot_list_pop ⟨_,e,rfl⟩ F.entry_list_pop (F.args_list_pop_1 _) (MeetsSeq.list_pop_last l its.toArray n u hy' (by rw[Y0e];omega)) ⟨e,?_⟩;refine⟨y,_,I.lset (its':=its.dropLast) hH e ?_ r.dropLast ?_,ru,q⟩
 ·show its.toArray.eraseIdxIfInBounds (its.toArray.size-1)=its.dropLast.toArray;rw[Y0e,Y3g,Z9P]
 ·rw[List.length_dropLast];omega
def Zeg:V->List V->Hp->VK->Prop:=fun x vs H Q=>∃ l xs i k y,x=.ref l/\vs=[.int i]/\H l=some (.lst xs)/\-(2^63)<=i/\i<2^63/\seqIndex? i xs.length=some k/\xs[k]?=some y/\Q y (upd H l (.lst (xs.eraseIdx k)))
theorem Zdv:MtM X "list.pop" Zeg:=by
 intro pins s σ H x vs v us Q I rx rv h;obtain⟨l,xs,i,k,y,rfl,rfl,hH,h1,h2,hk,hy,q⟩:=h;cases rx;obtain⟨u,rfl,ru⟩:=rv.one;obtain⟨t,rfl⟩:=ru;obtain⟨z,its,n,r,hl,e⟩:=I.lstM hH;obtain⟨w,hw,rw'⟩:=r.get hy;refine call_meets F.slot_list_pop ⟨_,e,rfl⟩ F.entry_list_pop (F.args_list_pop_2 _ _)
  (MeetsSeq.list_pop_at l its.toArray n i t k w (fitsIndex_both h1 h2) (by rw[Y0e,<-hl];exact hk) (by rw[<-Y2w];exact hw) (by rw[Y0e];omega)) ⟨e,?_⟩
 refine⟨y,_,I.lset (its':=its.eraseIdx k) hH e ?_ (r.eraseIdx k) ?_,rw',q⟩
 ·show its.toArray.eraseIdxIfInBounds k=(its.eraseIdx k).toArray;rw[Y3g]
 ·have:=Z6H xs k;omega
noncomputable def rCat:R2:=fun x y H Q=>∃ l b xs zs,x=.ref l/\y=.ref b/\H l=some (.lst xs)/\H b=some (.lst zs)/\xs.length+zs.length<=sizeLine/\∀ p,H p=none->Q (.ref p) (upd H p (.lst (xs++zs)))
theorem Ze0:OpR X (binaryOp .Add) rCat:=by
 intro pins s σ H x y v u Q I rx ry h;obtain⟨l,b,xs,zs,rfl,rfl,hH,hB,hz,q⟩:=h;cases rx;cases ry;obtain⟨z,its,n,r,hl,e⟩:=I.lstM hH;obtain⟨z2,its2,n2,r2,hl2,e2⟩:=I.lstM hB;refine PySem.P.add_list e e2 ?_ (by rw[Y0e,Y0e];omega);have ea:its.toArray++its2.toArray=(its++its2).toArray:=by simp
 rw[ea];exact⟨.ref _,_,I.lnew (t':=s.toks) (r.append r2) (by rw[Y09];omega),rfl,q _ I.fresh⟩
noncomputable def rRep:R2:=fun x y H Q=>∃ l k xs,x=.ref l/\y=.int k/\H l=some (.lst xs)/\-(2^63)<=k/\k<2^63/\xs.length*k.toNat<=sizeLine/\
 ∀ p,H p=none->Q (.ref p) (upd H p (.lst (Y0p k.toNat xs).flatten))
theorem ZeH {α:Type}(xs:List α)(k:Nat):(Y0p k xs).flatten.length=k*xs.length:=by
 induction k with
 | zero=>simp
 | succ k ih=>rw[Y20,Y1u,Y09,ih,Nat.succ_mul,Nat.add_comm]
theorem Zea:OpR X (binaryOp .Mult) rRep:=by
 intro pins s σ H x y v u Q I rx ry h;obtain⟨l,k,xs,rfl,rfl,hH,h1,h2,hz,q⟩:=h;cases rx;obtain⟨t,rfl⟩:=ry;obtain⟨z,its,n,r,hl,e⟩:=I.lstM hH;have hlen:its.toArray.size*k.toNat<=sizeLine:=by rw[Y0e,<-hl];exact hz
 have hcap:¬ its.toArray.size*k.toNat>(2^63-1)/8:=by
  have:(sizeLine:Nat)<=(2^63-1)/8:=by decide
  omega
 have hfit:¬ (!Builtin.List.listFitsIndex k)=true:=by
  rw[fitsIndex_both h1 h2];exact Y0g
 have hlong:¬ Builtin.List.listTooLong (its.toArray.size*k.toNat)=true:=by
  rw[Zdk hlen];exact Y0g
 have hnew:List.foldl (fun x1 x2=>x1++x2) #[] (Y0p (if its.toArray.isEmpty=true then 0 else k.toNat) its.toArray)=(Y0p k.toNat its).flatten.toArray:=by
  have f0:∀ m:Nat,List.foldl (fun x1 x2=>x1++x2) #[] (Y0p m its.toArray)=(Y0p m its).flatten.toArray:=fun m=>by
   have:=Z6T its m [];rw[List.nil_append]at this;exact this
  rw[f0];cases its with
  | nil=>simp
  | cons a r'=>rw[if_neg (by simp)]
 refine wpAny_binaryOp_repeat_ref (T:="list") (U:="int") (by decide) ⟨_,e,rfl⟩ (fun s'=>typeIs_int s' k t) noFill_list_mul F.fills_int_mul F.slot_int_rmul repeat_list F.slot_int_index.lookup
  (call_meets F.slot_int_rmul (typeIs_int s k t) F.entry_int_rmul (F.args_int_rmul_2 _ _) (int___rmul___int_list k t l its.toArray n)
   ⟨e,rfl,⟨_,e,rfl⟩,call_meets F.slot_list_mul ⟨_,e,rfl⟩ F.entry_list_mul (F.args_list_mul_2 _ _) (AutoListH.list___mul___list_int_3 l its.toArray n k t hfit hcap hlong) ⟨e,?_⟩⟩)
 rw[hnew];exact⟨.ref _,_,I.lnew (t':=s.toks) (r.rep k.toNat) (by rw[ZeH,Nat.mul_comm];exact hz),rfl,q _ I.fresh⟩
end
section
variable {prog:Program}{w:World}{A:Around}{E:Value->Shared->Prop}{s:Shared}
end
section
variable {X:Cx}
end
section
variable {κ:Type}[DecidableEq κ]
noncomputable def Zl (kvs:List (κ×V))(k:κ):Option V:=(kvs.find? fun kv=>decide (kv.1=k)).map (·.2)
noncomputable def Y1 (kvs:List (κ×V))(k:κ)(v:V):List (κ×V):=
 if (kvs.any fun kv=>decide (kv.1=k))=true then kvs.map (fun kv=>if kv.1=k then (kv.1,v) else kv) else kvs++[(k,v)]
theorem X8 {p:κ×V}{r:List (κ×V)}{k:κ}(e:p.1=k):Zl (p::r) k=some p.2:=by simp[Zl,Y2x,e]
theorem YH {p:κ×V}{r:List (κ×V)}{k:κ}(e:¬ p.1=k):Zl (p::r) k=Zl r k:=by simp[Zl,Y2x,e]
theorem VY (k:κ):∀ kvs:List (κ×V),(kvs.any fun kv=>decide (kv.1=k))=(Zl kvs k).isSome
 | []=>rfl
 | p::r=>by
  rw[Y3p]
  by_cases e:p.1=k
  ·simp only[X8 e,decide_eq_true e,Bool.true_or,Option.isSome_some]
  ·rw[YH e,decide_eq_false e,Bool.false_or];exact VY k r
theorem Z8I (k j:κ)(y:V):∀ kvs:List (κ×V),Zl (kvs.map fun kv=>if kv.1=k then (kv.1,y) else kv) j=(Zl kvs j).map fun x=>if j=k then y else x
 | []=>rfl
 | p::r=>by
  have ih:=Z8I k j y r;rw[Y0w]
  by_cases h:p.1=k
  ·rw[if_pos h]
   by_cases e:p.1=j
   ·rw[X8 (p:=(p.1,y)) e,X8 e,Option.map_some,if_pos (e.symm.trans h)]
   ·rw[YH (p:=(p.1,y)) e,YH e,ih]
  ·rw[if_neg h]
   by_cases e:p.1=j
   ·rw[X8 (p:=p) e,X8 e,Option.map_some,if_neg (fun z=>h (e.trans z))]
   ·rw[YH (p:=p) e,YH e,ih]
theorem Z5p (k j:κ)(y:V):∀ kvs:List (κ×V),Zl kvs k=none->Zl (kvs++[(k,y)]) j=if j=k then some y else Zl kvs j
 | [],_=>by
  by_cases e:k=j
  ·rw[if_pos e.symm];exact X8 (p:=(k,y)) e
  ·rw[if_neg (fun z=>e z.symm)];exact YH (p:=(k,y)) e
 | p::r,hn=>by
  rw[List.cons_append];have hk:¬ p.1=k:=fun z=>by rw[X8 z]at hn;cases hn
  rw[YH hk]at hn;have ih:=Z5p k j y r hn
  by_cases e:p.1=j
  ·rw[X8 e,X8 e,if_neg (fun z=>hk (e.trans z))]
  ·rw[YH e,YH e,ih]
theorem Zdh (kvs:List (κ×V))(k j:κ)(y:V):Zl (Y1 kvs k y) j=if j=k then some y else Zl kvs j:=by
 unfold Y1
 by_cases a:(kvs.any fun kv=>decide (kv.1=k))=true
 ·rw[if_pos a,Z8I];rw[VY]at a
  by_cases e:j=k
  ·obtain⟨x,hx⟩:=Option.isSome_iff_exists.mp a;rw[if_pos e,e,hx,Option.map_some,if_pos rfl]
  ·rw[if_neg e];cases Zl kvs j with
   | none=>rfl
   | some x=>rw[Option.map_some,if_neg e]
 ·rw[if_neg a];refine Z5p k j y kvs ?_;rw[VY]at a;cases q:Zl kvs k with
  | none=>rfl
  | some x=>rw[q]at a;exact (a rfl).elim
theorem Z3k (kvs:List (κ×V))(k:κ)(v:V):(Y1 kvs k v).length<=kvs.length+1:=by
 unfold Y1
 split
 ·rw[Y05];omega
 ·rw[Y09,Y0f,Y28];omega
theorem Xq {kvs:List (κ×V)}{k:κ}(v:V)(h:Zl kvs k=none):Y1 kvs k v=kvs++[(k,v)]:=by
 unfold Y1;rw[VY,h];exact if_neg (by decide)
theorem Yw.isSome_eq {o:Option V}{u:Option Value}(r:Yw o u):o.isSome=u.isSome:=by
 cases o with
 | none=>cases u with
  | none=>rfl
  | some _=>exact (show False from r).elim
 | some _=>cases u with
  | none=>exact (show False from r).elim
  | some _=>rfl
theorem KV.val {kvs:List (κ×V)}{vs:List (κ×Value)}(r:KV kvs vs)(k:κ):Yw (Zl kvs k) (valueAt vs k):=by
 unfold KV at r
 induction r with
 | nil=>exact True.intro
 | @cons p q ps qs h t ih=>
  obtain⟨h1,h2⟩:=h
  by_cases e:p.1=k
  ·have e':q.1=k:=h1.symm.trans e;have b:valueAt (q::qs) k=some q.2:=(by simp[valueAt,Y2x,e']);rw[X8 e,b];exact h2
  ·have e':¬ q.1=k:=fun z=>e (h1.trans z);have b:valueAt (q::qs) k=valueAt qs k:=(by simp[valueAt,Y2x,e']);rw[YH e,b];exact ih
theorem KV.any {kvs:List (κ×V)}{vs:List (κ×Value)}(r:KV kvs vs)(k:κ):(kvs.any fun kv=>decide (kv.1=k))=vs.any fun kv=>decide (kv.1=k):=by
 unfold KV at r
 induction r with
 | nil=>rfl
 | cons h t ih=>rw[Y3p,Y3p,ih,h.1]
theorem KV.repl {kvs:List (κ×V)}{vs:List (κ×Value)}(r:KV kvs vs)(k:κ){y:V}{u:Value}(ry:ZI y u) :
  KV (kvs.map fun kv=>if kv.1=k then (kv.1,y) else kv) (vs.map fun kv=>if kv.1=k then (kv.1,u) else kv):=by
 unfold KV at r ⊢
 induction r with
 | nil=>exact .nil
 | @cons p q ps qs h t ih=>
  rw[Y0w,Y0w];refine .cons ?_ ih;obtain⟨h1,h2⟩:=h
  by_cases e:p.1=k
  ·rw[if_pos e,if_pos (h1.symm.trans e)];exact⟨h1,ry⟩
  ·rw[if_neg e,if_neg (fun z=>e (h1.trans z))];exact⟨h1,h2⟩
theorem KV.put {kvs:List (κ×V)}{vs:List (κ×Value)}(r:KV kvs vs)(k:κ){y:V}{u:Value}(ry:ZI y u):KV (Y1 kvs k y) (stored vs k u):=by
 unfold Y1 stored;rw[r.any k]
 by_cases e:(vs.any fun kv=>decide (kv.1=k))=true
 ·rw[if_pos e,if_pos e];exact r.repl k ry
 ·rw[if_neg e,if_neg e];exact Paired.snoc r ⟨rfl,ry⟩
theorem KV.keys {kvs:List (κ×V)}{vs:List (κ×Value)}(r:KV kvs vs):kvs.map (·.1)=vs.map (·.1):=by
 unfold KV at r
 induction r with
 | nil=>rfl
 | cons h t ih=>rw[Y0w,Y0w,ih,h.1]
theorem KV.length {kvs:List (κ×V)}{vs:List (κ×Value)}(r:KV kvs vs):kvs.length=vs.length:=Paired.length r
end
theorem Wd {P:Program}{w:World}{k:Key}{u:Value}(r:ZI (kV k) u):(Y9 P w).is k u=true:=by
 cases k with
 | inl i=>obtain⟨t,e⟩:=(show ∃ t,u=Value.int i t from r);subst e;exact Z5l P w i t
 | inr x=>obtain⟨t,e⟩:=(show ∃ t,u=Value.str x t from r);subst e;exact Z5c P w x t
theorem Z7B {P:Program}{w:World}:∀ {ks:List Key} {us:List Value},ZT (ks.map kV) us->ItemsAre (Y9 P w) ks us
 | [],_,r=>by rw[Y3m]at r;cases r;exact .nil
 | k::ks,_,r=>by
  rw[Y0w]at r;cases r with
  | cons h t=>exact .cons (Wd h) (Z7B t)
abbrev KT (H:Hp):List (List Key×V)->List (List Key×Addr×Value)->Prop:=Paired fun p q=>p.1=q.1/\H q.2.1=some (.tup (p.1.map kV))/\ZI p.2 q.2.2
theorem KT.val {H:Hp}{kvs:List (List Key×V)}{xs:List (List Key×Addr×Value)}(r:KT H kvs xs)(k:List Key):Yw (Zl kvs k) ((atKey xs k).map (·.2)):=by
 induction r with
 | nil=>exact True.intro
 | @cons p q ps qs h t ih=>
  obtain⟨h1,_,h2⟩:=h
  by_cases e:p.1=k
  ·have e':q.1=k:=h1.symm.trans e;have b:atKey (q::qs) k=some q.2:=(by simp[atKey,Y2x,e']);rw[X8 e,b];exact h2
  ·have e':¬ q.1=k:=fun z=>e (h1.trans z);have b:atKey (q::qs) k=atKey qs k:=(by simp[atKey,Y2x,e']);rw[YH e,b];exact ih
theorem KT.repl {H:Hp}{kvs:List (List Key×V)}{xs:List (List Key×Addr×Value)}(r:KT H kvs xs)(k:List Key){y:V}{u:Value}(ry:ZI y u) :
  KT H (kvs.map fun kv=>if kv.1=k then (kv.1,y) else kv) (xs.map (putAt k u)):=by
 induction r with
 | nil=>exact .nil
 | @cons p q ps qs h t ih=>
  rw[Y0w,Y0w];refine .cons ?_ ih;obtain⟨h1,h2,h3⟩:=h;unfold putAt
  by_cases e:p.1=k
  ·rw[if_pos e,if_pos (h1.symm.trans e)];exact⟨h1,h2,ry⟩
  ·rw[if_neg e,if_neg (fun z=>e (h1.trans z))];exact⟨h1,h2,h3⟩
theorem KT.put {H:Hp}{kvs:List (List Key×V)}{xs:List (List Key×Addr×Value)}(r:KT H kvs xs)(k:List Key){b:Addr}{y:V}{u:Value}(hb:H b=some (.tup (k.map kV)))(ry:ZI y u) :
  KT H (Y1 kvs k y) (storedH xs k b u):=by
 have e:(kvs.any fun kv=>decide (kv.1=k))=(atKey xs k).isSome:=by
  rw[VY,(r.val k).isSome_eq,Option.isSome_map]
 unfold Y1 storedH;rw[e]
 by_cases q:(atKey xs k).isSome=true
 ·rw[if_pos q,if_pos q];exact r.repl k ry
 ·rw[if_neg q,if_neg q];exact Paired.snoc r ⟨rfl,hb,ry⟩
theorem KT.keeps {H H':Hp}{kvs:List (List Key×V)}{xs:List (List Key×Addr×Value)}(r:KT H kvs xs)(ht:∀ b ys,H b=some (.tup ys)->H' b=some (.tup ys)):KT H' kvs xs:=
 Paired.mapP r fun _ _ z=>⟨z.1,ht _ _ z.2.1,z.2.2⟩
section
variable {P:Program}{w:World}{H:Hp}{h:Heap}{a:Addr}
theorem ZhA {u:HO}(ok:HOk P w H h)(e:Rd H a u):Zi P w H h a u:=e.ok ok
theorem TZ {kvs:List (Key×V)}(ok:HOk P w H h)(e:Rd H a (.dK kvs)):kvs.length<=sizeLine/\(a==sysModules)=false/\∃ vs,KV kvs vs/\h.DictOf (Y9 P w) a vs:=
 show Zi P w H h a (.dK kvs) from ZhA ok e
theorem ZeQ {kvs:List (Key×V)}(ok:HOk P w H h)(e:H a=some (.dK kvs)):kvs.length<=sizeLine/\(a==sysModules)=false/\∃ vs,KV kvs vs/\h.DictOf (Y9 P w) a vs:=TZ ok (.inl e)
theorem SW {ks:List Key}(ok:HOk P w H h)(e:H a=some (.tup (ks.map kV))):(tupleKind (Y9 P w)).is h ks a:=by
 obtain⟨_,its,r,o,h1,h2,n,h3⟩:=(show Zi P w H h a (.tup (ks.map kV)) from ok a _ e);exact⟨o,its.toArray,n,h1,h2,h3,by simpa using Z7B r⟩
theorem Sy {kvs:List (List Key×V)}(ok:HOk P w H h)(e:Rd H a (.dT kvs)):kvs.length<=sizeLine/\(a==sysModules)=false/\
  ∃ xs,KT H kvs xs/\h.DictOfH (tupleKind (Y9 P w)) a xs:=by
 obtain⟨z,y,xs,r,o,es,ep,h1,h2,h3,h4,h5⟩:=(show Zi P w H h a (.dT kvs) from ZhA ok e);refine⟨z,y,xs,r,o,es,ep,h1,h2,h3,h4,fun x hx=>?_,h5⟩;have all:∀ {l:List (List Key×V)} {m:List (List Key×Addr×Value)},KT H l m->∀ x∈m,(tupleKind (Y9 P w)).is h x.1 x.2.1:=by
  intro l m q
  induction q with
  | nil=>intro x hx;exact nomatch hx
  | @cons p q ps qs hq t ih=>
   intro x hx;rcases Y0k.mp hx with e|hx
   ·subst e;exact SW ok (by rw[<-hq.1];exact hq.2.1)
   ·exact ih x hx
 exact all r x hx
theorem Zje {kvs:List (List Key×V)}(ok:HOk P w H h)(e:H a=some (.dT kvs)):kvs.length<=sizeLine/\(a==sysModules)=false/\
  ∃ xs,KT H kvs xs/\h.DictOfH (tupleKind (Y9 P w)) a xs:=Sy ok (.inl e)
end
def X1 (H:Hp)(a:Addr)(y:V)(r:Option V):Prop:=
 (∃ kvs k,Rd H a (.dK kvs)/\y=kV k/\r=Zl kvs k)\/∃ kvs k b,Rd H a (.dT kvs)/\y=.ref b/\H b=some (.tup (k.map kV))/\r=Zl kvs k
def WN (H:Hp)(a:Addr)(y v:V)(H':Hp):Prop:=
 (∃ kvs k,H a=some (.dK kvs)/\y=kV k/\kvs.length<sizeLine/\H'=upd H a (.dK (Y1 kvs k v)))\/
 ∃ kvs k b,H a=some (.dT kvs)/\y=.ref b/\H b=some (.tup (k.map kV))/\kvs.length<sizeLine/\H'=upd H a (.dT (Y1 kvs k v))
theorem X1.k {H:Hp}{a:Addr}{kvs:List (Key×V)}{k:Key}(e:H a=some (.dK kvs)):X1 H a (kV k) (Zl kvs k):=.inl ⟨kvs,k,.inl e,rfl,rfl⟩
theorem WN.k {H:Hp}{a:Addr}{kvs:List (Key×V)}{k:Key}{v:V}(e:H a=some (.dK kvs))(hl:kvs.length<sizeLine):WN H a (kV k) v (upd H a (.dK (Y1 kvs k v))):=.inl ⟨kvs,k,e,rfl,hl,rfl⟩
section
variable {X:Cx}{pins:List (Addr×Obj)}{σ:St}{H:Hp}{s:Shared}{a:Addr}{y v:V}{u r:Value}{o:Option V}{A:Around}{E:Value->Shared->Prop}
theorem Inv.big (I:Inv X pins σ H s):sysModules<s.heap.objs.size:=by
 have h:mainGlobals<s.heap.objs.size:=(I.mod.glob.keeps I.bk).lt;exact Y2y (by decide) h
theorem ZaQ {Q:Value->Shared->Prop}(hu:A.units+1<cLine)(I:Inv X pins σ H s)(g:X1 H a y (some v))(ry:ZI y u)(h:∀ w' s',Inv X pins σ H s'->ZI v w'->Q w' s') :
  wpAny (model X.prog X.w) A (getItem (.ref a) u) Q E s:=by
 rcases g with ⟨kvs,k,e,ey,l⟩|⟨kvs,k,b,e,ey,eb,l⟩
 ·subst ey;obtain⟨z,hd,vs,rel,dd⟩:=TZ I.hok e;obtain⟨w',hw,rw'⟩:=Yw.some_of (v:=v) (o:=valueAt vs k) (by rw[l];exact rel.val k);exact wpAny_getItem_of (Wd ry) dd.mapOf hw (h w' _ (I.tok _) rw')
 ·subst ey;cases (show u=Value.ref b from ry);obtain⟨z,hd,xs,rel,dd⟩:=Sy I.hok e;obtain⟨w',hw,rw'⟩:=Yw.some_of (v:=v) (o:=(atKey xs k).map (·.2)) (by rw[l];exact rel.val k);obtain⟨p,hp,hp2⟩:=Option.map_eq_some_iff.mp hw;refine wpAny_getItem_heap (tupleKind_room_in1 hu) (SW I.hok eb) dd hp ?_;rw[hp2];exact h w' _ (I.tok _) rw'
theorem Zfw {Q:Value->Shared->Prop}(hu:A.units+1<cLine)(I:Inv X pins σ H s)(g:X1 H a y o)(ry:ZI y u)(h:∀ s',Inv X pins σ H s'->Q (.bool (!o.isSome)) s') :
  wpAny (model X.prog X.w) A (compareOp .NotIn u (.ref a)) Q E s:=by
 rcases g with ⟨kvs,k,e,ey,l⟩|⟨kvs,k,b,e,ey,eb,l⟩
 ·subst ey;obtain⟨z,hd,vs,rel,dd⟩:=TZ I.hok e;refine wpAny_notIn_of (Wd ry) hd dd.mapOf ?_;rw[<-(rel.val k).isSome_eq,<-l];exact h _ (I.tok _)
 ·subst ey;cases (show u=Value.ref b from ry);obtain⟨z,hd,xs,rel,dd⟩:=Sy I.hok e;refine wpAny_notIn_heap (tupleKind_room_in1 hu) (SW I.hok eb) hd dd ?_;have q:=(rel.val k).isSome_eq;rw[Option.isSome_map]at q;rw[<-q,<-l];exact h _ (I.tok _)
theorem Z88 {h':Heap}{t':Nat}{ob:HO}(I:Inv X pins σ H s)(mu:Mut (H a))(hs:Y3j a s.heap h')(he:∃ q,h'.get? a=some q)(new:Zi X.prog X.w (upd H a ob) h' a ob) :
  Inv X pins σ (upd H a ob) { s with heap:=h',toks:=t' }:=
 I.write (x:=a) (e:=a) mu (.inl rfl) (fun b q hb z=>(hs.2 b hb).trans z) he new
theorem Ze4 {P:Program}{w:World}{H':Hp}{h':Heap}{kvs:List (Key×V)}{vs:List (Key×Value)}(z:kvs.length<=sizeLine)(hd:(a==sysModules)=false)(rel:KV kvs vs)(dd:h'.DictOf (Y9 P w) a vs) :
  Zi P w H' h' a (.dK kvs):=⟨z,hd,vs,rel,dd⟩
theorem Zb5 {H':Hp}{Q:Unit->Shared->Prop}(hu:A.units+1<cLine)(I:Inv X pins σ H s)(g:WN H a y v H')(ry:ZI y u)(rv:ZI v r)(h:∀ s',Inv X pins σ H' s'->Q () s') :
  wpAny (model X.prog X.w) A (setItem (.ref a) u r) Q E s:=by
 rcases g with ⟨kvs,k,e,ey,l,eH⟩|⟨kvs,k,b,e,ey,eb,l,eH⟩
 ·subst ey eH;obtain⟨z,hd,vs,rel,dd⟩:=ZeQ I.hok e;have hz:vs.length<=sizeLine:=by rw[<-rel.length];exact z
  have hl:(Y1 kvs k v).length<=sizeLine:=by have:=Z3k kvs k v;omega
  refine wpAny_setItem_pairs (hsz:=hz) (Wd ry) dd fun h' dd' hs=>h _ ?_;have he:∃ q,h'.get? a=some q:=let ⟨q,_,_,hq,_⟩:=dd';⟨q,hq⟩
  exact Z88 I (by rw[e];exact True.intro) hs he (Ze4 hl hd (rel.put k rv) dd')
 ·subst ey eH;cases (show u=Value.ref b from ry);obtain⟨z,hd,xs,rel,dd⟩:=Zje I.hok e;have hz:xs.length<=sizeLine:=by rw[<-Paired.length rel];exact z
  have hl:(Y1 kvs k v).length<=sizeLine:=by have:=Z3k kvs k v;omega
  refine wpAny_setItem_heap (hsz:=hz) (tupleKind_room_in1 hu) (SW I.hok eb) dd fun h' dd' hs=>h _ ?_;obtain⟨q,es,ep,hq,h2,h3,h4,_,h5⟩:=dd';refine Z88 I (by rw[e];exact True.intro) hs ⟨q,hq⟩ ⟨hl,hd,_,(rel.put k eb rv).keeps fun c ys ec=>?_,q,es,ep,hq,h2,h3,h4,h5⟩;rw[ZZ (T7 ec e (fun z=>nomatch z))];exact ec
end
section
variable {X:Cx}{pins:List (Addr×Obj)}{σ:St}{H:Hp}{s:Shared}{a:Addr}{kvs:List (Key×V)}{k:Key}{u:Value}{A:Around}{E:Value->Shared->Prop}
theorem Zjo {Q:Value->Shared->Prop}(I:Inv X pins σ H s)(e:Rd H a (.dK kvs))(h:∀ t s',Inv X pins σ H s'->Q (.int kvs.length t) s'):wpAny (model X.prog X.w) A (call (.builtin "len") [.ref a]) Q E s:=by
 obtain⟨z,hd,vs,rel,dd⟩:=TZ I.hok e;refine call_len_dict hd dd (by rw[<-rel.length];rw[sizeLine_eq]at z;omega) ?_;rw[<-rel.length];exact h _ _ (I.tok _)
end
def Zjv (i:Expr):Prop:=∀ ov iv,subscripted i false ov iv=operate [ov,iv] (getItem ov iv)
theorem ZbL {prog:Program}{w:World}{A:Around}{E:Value->Shared->Prop}{s:Shared}{env:Env}{value slice:Expr}{pos:Pos}{T id:String}{Q:Value->Shared->Prop}
  (hl:typeLookup (.type T) "__getitem__"=pure (some (.builtin id))) (hs:Zjv slice)
  (h:wpAny (model prog w) A (eval value env) (fun o s₁=>wpAny (model prog w) A (eval slice env) (fun i s₂=>s₂.TypeIs o T/\wpAny (model prog w) A (getItem o i) Q E s₂) E s₁) E s) :
  wpAny (model prog w) A (eval (.Subscript value slice pos) env) Q E s:=by
 refine Subscript_ (wpAny_mono h (fun o s₁ h₁=>wpAny_mono h₁ (fun i s₂ h₂=>?_) fun _ _ x=>x) fun _ _ x=>x);obtain⟨hT,h₂⟩:=h₂;unfold subscriptTail;refine wpAny_bind ?_;rw[getitemInPython_of_ne hT.not_modules];refine wpAny_bind (wpAny_specialOf hT hl ?_);have fin:wpAny (model prog w) A (subscripted slice false o i) (fun r s₃=>wpAny (model prog w) A (letTemporaryGo value o r >>= fun _=>pure r) Q E s₃) E s₂:=by
  rw[hs o i];exact wpAny_operating (wpAny_mono h₂ (fun r s₃ h₃=>wpAny_bind (wpAny_letTemporaryGo (wpAny_pure h₃))) fun _ _ x=>x)
 first
  | exact wpAny_pure (wpAny_bind fin)
  | exact wpAny_bind (wpAny_pure (wpAny_bind fin))
  | exact wpAny_bind fin
theorem Z8b {X:Cx}{pins:List (Addr×Obj)}{σ:St}{H:Hp}{s:Shared}{a:Addr}{y:V}{o:Option V}(I:Inv X pins σ H s)(g:X1 H a y o):s.TypeIs (.ref a) "dict":=by
 rcases g with ⟨kvs,k,e,_,_⟩|⟨kvs,k,b,e,_,_,_⟩
 ·obtain⟨_,_,vs,_,dd⟩:=TZ I.hok e;exact dd.typeIs
 ·obtain⟨_,_,xs,_,dd⟩:=Sy I.hok e;exact dd.typeIs
noncomputable def ZfL (td ty:TE):TE:=fun σ H Q=>td σ H fun x H1=>ty σ H1 fun y H2=>∃ a v,x=.ref a/\X1 H2 a y (some v)/\Q v H2
noncomputable def ZeW (ty td:TE):TE:=fun σ H Q=>ty σ H fun y H1=>td σ H1 fun x H2=>∃ a o,x=.ref a/\X1 H2 a y o/\Q (.bl (!o.isSome)) H2
noncomputable def ZjC (td ty tv:TE):TS:=fun D σ H=>tv σ H fun v H1=>td σ H1 fun x H2=>ty σ H2 fun y H3=>∃ a H4,x=.ref a/\WN H3 a y v H4/\D.nx σ H4
section
variable {X:Cx}{o i e value:Expr}{pos pos' tpos:Pos}{td ty tv:TE}
theorem Zae (hu:X.A.units+1<cLine)(ho:PE X o td)(hi:PE X i ty)(hs:Zjv i):PE X (.Subscript o i pos) (ZfL td ty):=by
 intro pins s σ H Q I h;refine ZbL PySem.F.slot_dict_getitem.lookup hs (thn (ho pins s σ H _ I h) fun u s1 ⟨x,H1,I1,rx,q1⟩=>thn (hi pins s1 σ H1 _ I1 q1) fun iv s2 ⟨y,H2,I2,ry,a,v,ex,g,q2⟩=>?_);subst ex;obtain rfl:u=Value.ref a:=rx;exact⟨Z8b I2 g,ZaQ hu I2 g ry fun w' s3 I3 rw'=>⟨v,H2,I3,rw',q2⟩⟩
theorem Z6M (hu:X.A.units+1<cLine)(hi:PE X i ty)(ho:PE X o td):PC X .NotIn i o (ZeW ty td):=by
 intro pins s σ H Q I h;refine thn (hi pins s σ H _ I h) fun iv s1 ⟨y,H1,I1,ry,q1⟩=>thn (ho pins s1 σ H1 _ I1 q1) fun u s2 ⟨x,H2,I2,rx,a,ov,ex,g,q2⟩=>?_;subst ex;obtain rfl:u=Value.ref a:=rx;exact Zfw hu I2 g ry fun s3 I3=>⟨.bl (!ov.isSome),H2,I3,rfl,q2⟩
theorem S0 (hu:X.A.units+1<cLine)(ho:PE X o td)(hi:PE X i ty)(hv:PE X value tv)(hs:swapsWith value (some (.Subscript o i pos')) pos.line X.env=pure false) :
  PS X (.Assign [.Subscript o i pos'] value pos) (ZjC td ty tv):=by
 intro pins s σ H D I h;refine wpAny_Assign_Subscript (thn (hv pins s σ H _ I h) fun r s1 ⟨v,H1,I1,rv,q1⟩=>thn (ho pins s1 σ H1 _ I1 q1) fun u s2 ⟨x,H2,I2,rx,q2⟩=>thn (hi pins s2 σ H2 _ I2 q2) fun iv s3 ⟨y,H3,I3,ry,a,H4,ex,g,q3⟩=>?_) hs;subst ex;obtain rfl:u=Value.ref a:=rx;exact Zb5 hu I3 g ry rv fun s4 I4=>⟨σ,H4,I4,q3⟩
end
theorem Z8S {P:Program}{w:World}{H:Hp}(h:Heap)(hb:sysModules<h.objs.size):Zi P w H (h.push { cls:=.type "dict",data:=.dict #[] }) h.objs.size (.dK []):=
 ⟨Y0y _,beq_eq_false_iff_ne.mpr (Ne.symm (Y0j hb)),[],.nil,Heap.DictOf.new h⟩
noncomputable def Zhl:TE:=fun _ H Q=>∀ p,H p=none->Q (.ref p) (upd H p (.dK []))
section
variable {X:Cx}{pos:Pos}
theorem Z6g:PE X (.Dict [] [] pos) Zhl:=fun pins s σ H Q I h=>
 wpAny_Dict_empty ⟨.ref s.heap.objs.size,_,I.laid (a:=s.heap.objs.size) (o:=.dK []) (t':=s.toks) (fun _ _ q=>Y02 _ q) (Y04 _) (Z8S s.heap I.big),rfl,h _ (I.hok.fresh (Y04 _))⟩
end
def Zcb:List (TE×TE)->St->Hp->(List (V×V)->Hp->Prop)->Prop
 | [],_,H,Q=>Q [] H
 | (tk,tv)::r,σ,H,Q=>tk σ H fun x H1=>tv σ H1 fun y H2=>Zcb r σ H2 fun ps H3=>Q ((x,y)::ps) H3
abbrev VV:List (V×V)->List (Value×Value)->Prop:=Paired fun p q=>ZI p.1 q.1/\ZI p.2 q.2
def PPs (X:Cx)(pos:Pos)(keys:List (Option Expr))(values:List Expr)(trs:List (TE×TE)):Prop:=
 ∀ (pins:List (Addr×Obj)) (s:Shared) (σ:St) (H:Hp) (Q:List (V×V)->Hp->Prop),Inv X pins σ H s->Zcb trs σ H Q->
  wpAny (model X.prog X.w) X.A (evalPairs (pairTrees keys values X.env pos)) (fun vs s'=>∃ ps H',Inv X pins σ H' s'/\VV ps vs/\Q ps H') X.xe s
theorem Zbk {X:Cx}{pos:Pos}:PPs X pos [] [] []:=fun pins s σ H Q I h=>pairTrees_nil_walk ⟨[],H,I,.nil,h⟩
theorem UO {X:Cx}{pos:Pos}{k v:Expr}{ks:List (Option Expr)}{vs:List Expr}{tk tv:TE}{trs:List (TE×TE)}(hk:PE X k tk)(hv:PE X v tv)(hr:PPs X pos ks vs trs) :
  PPs X pos (some k::ks) (v::vs) ((tk,tv)::trs):=fun pins s σ H Q I h=>
 pairTrees_cons_walk (thn (hk pins s σ H _ I h) fun u s1 ⟨x,H1,I1,rx,q1⟩=>thn (hv pins s1 σ H1 _ I1 q1) fun w2 s2 ⟨y,H2,I2,ry,q2⟩=>
  thn (hr pins s2 σ H2 _ I2 q2) fun ws s3 ⟨ps,H3,I3,rel,q3⟩=>⟨(x,y)::ps,H3,I3,.cons ⟨rx,ry⟩ rel,q3⟩)
noncomputable def Wn (kvs more:List (Key×V)):List (Key×V):=more.foldl (fun acc kv=>Y1 acc kv.1 kv.2) kvs
theorem KV.merge:∀ {more:List (Key×V)} {rs:List (Key×Value)} {kvs:List (Key×V)} {vs:List (Key×Value)},KV more rs->KV kvs vs->KV (Wn kvs more) (merged vs rs):=by
 intro more rs kvs vs r;unfold KV at r
 induction r generalizing kvs vs with
 | nil=>intro q;exact q
 | @cons p q ps qs h t ih=>
  intro r0;have e:KV (Y1 kvs p.1 p.2) (stored vs q.1 q.2):=by
   have:=r0.put p.1 h.2;rw[<-h.1];exact this
  exact ih e
theorem Z3H:∀ (more kvs:List (Key×V)),(Wn kvs more).length<=kvs.length+more.length
 | [],kvs=>by show kvs.length<=kvs.length+0;omega
 | p::r,kvs=>by
  have h1:=Z3H r (Y1 kvs p.1 p.2);have h2:=Z3k kvs p.1 p.2;show (Wn (Y1 kvs p.1 p.2) r).length<=_;rw[Y0f];omega
theorem Z5Q {P:Program}{w:World}:∀ {kvs:List (Key×V)} {ws:List (Value×Value)},VV (kvs.map fun kv=>(kV kv.1,kv.2)) ws->∃ rs,Carries (Y9 P w) ws rs/\KV kvs rs
 | [],_,r=>by rw[Y3m]at r;cases r;exact⟨[],True.intro,.nil⟩
 | p::kvs,_,r=>by
  rw[Y0w]at r;cases r with
  | @cons a b as bs h t=>
   obtain⟨rs,c,q⟩:=Z5Q (P:=P) (w:=w) t;obtain⟨b1,b2⟩:=b;exact⟨(p.1,b2)::rs,⟨Wd h.1,rfl,c⟩,.cons ⟨rfl,h.2⟩ q⟩
noncomputable def Zjk (trs:List (TE×TE)):TE:=fun σ H Q=>∀ p,H p=none->Zcb trs σ (upd H p (.dK [])) fun ps H2=>H2 p=some (.dK [])/\∃ kvs:List (Key×V),ps=kvs.map (fun kv=>(kV kv.1,kv.2))/\kvs.length<=15/\Q (.ref p) (upd H2 p (.dK (Wn [] kvs)))
theorem Zaz {X:Cx}{pos:Pos}{keys:List (Option Expr)}{values:List Expr}{trs:List (TE×TE)}(h:PPs X pos keys values trs)(hall:keys.all (·.isSome)=true)(hl:keys.length=values.length)(h0:keys≠[])
  (h15:keys.length<=15):PE X (.Dict keys values pos) (Zjk trs):=by
 intro pins s σ H Q I q;have hn:=I.hok.fresh (Y04 s.heap.objs.size);have I1:=I.laid (a:=s.heap.objs.size) (o:=.dK []) (h':=s.heap.push { cls:=.type "dict",data:=.dict #[] }) (t':=s.toks) (fun _ _ q=>Y02 _ q) (Y04 _) (Z8S s.heap I.big);refine wpAny_Dict_walk (knd:=Y9 X.prog X.w) hall hl h0 h15 (thn (h pins _ σ _ _ I1 (q _ hn)) fun ws s2 ⟨ps,H2,I2,rel,e,kvs,ep,lk,q2⟩=>?_);subst ep;obtain⟨rs,c,rk⟩:=Z5Q (P:=X.prog) (w:=X.w) rel;obtain⟨z,hd,vs0,r0,dd⟩:=ZeQ I2.hok e;cases r0;refine⟨rs,c,dd,fun h' dd' hs=>⟨.ref s.heap.objs.size,_,?_,rfl,q2⟩⟩;have hz:(Wn [] kvs).length<=sizeLine:=by
  have h1:=Z3H kvs [];rw[Y28]at h1;rw[sizeLine_eq];omega
 have he:∃ q,h'.get? s.heap.objs.size=some q:=let ⟨q,_,_,hq,_⟩:=dd';⟨q,hq⟩
 exact Z88 I2 (by rw[e];exact True.intro) hs he (Ze4 hz hd (rk.merge .nil) dd')
section
variable {X:Cx}{pins:List (Addr×Obj)}{σ:St}{H:Hp}{s:Shared}{a:Addr}{y d:V}{u r:Value}{o:Option V}{A:Around}{E:Value->Shared->Prop}
end
section
variable {X:Cx}{o e f:Expr}{apos cpos:Pos}{td ty tx:TE}
end
section
variable {X:Cx}{pins:List (Addr×Obj)}{σ:St}{H:Hp}{s:Shared}{a:Addr}{kvs:List (Key×V)}{A:Around}{E:Value->Shared->Prop}
end
section
variable {X:Cx}{pins:List (Addr×Obj)}{σ:St}{H:Hp}{s:Shared}{a:Addr}{y:V}{u:Value}{A:Around}{E:Value->Shared->Prop}
end
end L2
namespace Att
open PySem PySem.W PySem.Calls PyProof.Rows
theorem Z5r {P:Params}{h:Heap}:∀ (ns:List Int) (vs:List Value),WellAll P h vs (ns.map WData.int)->IntsAre vs ns:=by
 intro ns
 induction ns with
 | nil=>
  intro vs w;rw[Y3m]at w;cases w;exact .nil
 | cons n ns ih=>
  intro vs w;rw[Y0w]at w;cases w with
  | cons a b=>
   cases a;exact .cons _ _ (ih _ b)
theorem ZbV {l:OpenLaw}{n:Nat}(hn:l.most=some n){P:Params}{h:Heap}{args:List WData}{vals:List Value}
  (hpre:l.row.toRowW.claim.pre args=true) (hwl:WellAll P h vals args) :
  ∃ a vs ns,vals=[Value.ref a]/\args=[WData.list (ns.map WData.int)]/\h.get? a=some { cls:=.type "list",data:=.seq vs.toArray }/\IntsAre vs ns/\ns.length<=n:=by
 have hsh:WShape.hasAll [] args [.list .int]=true:=(pre_splitW hpre).1;have hc:l.pre.holds [] { args:=args }=true:=(pre_splitW hpre).2;obtain⟨d,r,rfl,h1,h2⟩:=hasAllW_cons hsh;obtain rfl:=hasAllW_nil h2;obtain⟨xs,rfl,h3⟩:=hasW_list h1;obtain⟨ns,rfl⟩:=items_int h3;have hlen:ns.length<=n:=by
  unfold OpenLaw.pre at hc;have h4:(WTm.not (.lt (.lit (.int (n:Int))) (.len (.arg 0)))).holds [] { args:=[.list (ns.map .int)] }=true:=by
   have h4:=(holds_andW hc).1;rw[hn]at h4;exact h4
  have h5:=condW_of h4 (w_not (w_lt w_lit (w_len_list (w_arg rfl))));rw[Y05]at h5;refine Nat.le_of_not_lt fun q=>?_;have q':(n:Int)<((ns.length:Nat):Int):=by omega
  first
   | (rw[decide_eq_true q']at h5;exact absurd h5 (by decide))
   | (simp at h5;omega)
 cases hwl with
 | cons w1 w2=>
  cases w2;cases w1 with
  | list ho hall=>exact⟨_,_,ns,rfl,rfl,ho,Z5r ns _ hall,hlen⟩
theorem ZaJ (l:OpenLaw)(args:List WData):l.row.toRowW.claim.post args (.bool true) args=true:=
 postW_of (r:=l.row.toRowW) (X:=(true==true))
  (show WShape.has [] (.bool true) .bool=true by first|rfl|decide|simp[WShape.has,WShape.arms,WShape.armsAll])
  (show (WTm.eq .res (.lit (.bool true))).value [] { args:=args,res:=some (.bool true),after:=args }=some (.bool (true==true)) from w_eq_bool (w_res rfl) w_lit) rfl
theorem attach_call {l:OpenLaw}{n:Nat}{q:Program}{loose:List Str}{XP:(Str->Option Value)->Heap->Prop}{YP:World->Heap->Prop}{d:DefRec}
  (hn:l.most=some n) (hdf:d.params.defaults=[])
  (call:∀ (w:World) (s₀ s₁:Shared) (mg mb:Str->Option Value) (fa:Addr) (o:Obj) (pm cd doc:Value) (a:Addr) (vs:List Value) (ns:List Int),
   Ground q loose [] XP w s₀ mg mb s₁.heap->YP w s₁.heap->
   s₁.heap.get? fa=some o->o.data=.func (docDef d.name d.params d.body d.scope pm cd doc)->s₁.heap.CodeRec cd d.name->mg d.name=some (.ref fa)->
   s₁.heap.get? a=some { cls:=.type "list",data:=.seq vs.toArray }->IntsAre vs ns->ns.length<=n->s₁.gens=#[]->
   codeAny (model l.prog w) callerA (.call (.ref fa) ⟨[.ref a],[]⟩) (fun r s'=>r=.ok (.ret (.bool true))/\OldK s₁.heap s'.heap/\s'.os=s₁.os/\AllBare s'.gens) s₁) :
  WalkO q loose XP YP l.row.toRowW d [] (fun f vs=>PySem.call f vs):=by
 intro w s₀ s₁ mg mb G Y fa o pm cd doc dV kV ho hd hcd hD hmg hg args vals as hpre hlay hrd hwl hlo;obtain rfl:dV=.none:=Dflts.none hD hdf;obtain rfl:kV=.none:=Dflts.noKw hD;obtain⟨a,vs,ns,rfl,rfl,hobj,hints,hlen⟩:=ZbV hn hpre hwl;refine enter_call (codeAny_mono (call w s₀ s₁ mg mb fa o pm cd doc a vs ns G Y ho (fd_plain hd) hcd hmg hobj hints hlen hg) fun r s' hq=>?_);obtain⟨rfl,h2,h3,h4⟩:=hq;exact⟨.inl ⟨.bool true,.bool true,[],rfl,fun _=>rfl,.bool true,ZaJ l _,fun _=>⟨List.Pairwise.nil,fun _ hm=>(nomatch hm)⟩⟩,h2,h3,h4⟩
section
variable {prog:Program}{w:World}{A:Around}{E:Value->Shared->Prop}{s:Shared}{K:Frag}
end
end Att
namespace L2
open PySem PySem.Spec PyProof.Rows
theorem Z4G:∀ {vs:List Value} {ns:List Int},IntsAre vs ns->ZT (ns.map V.int) vs
 | _,_,.nil=>.nil
 | _,_,.cons n t h=>.cons ⟨t,rfl⟩ (Z4G h)
def Zj9 (H:Hp):Prop:=∀ b,H b=none\/∃ o xs,H b=some (.frz o (.lst xs))
theorem ZdB {P:Program}{w:World}{K:Y00}{mg mb:Str->Option Value}{CX:CXT}{k:Nat}{fa a:Addr}{fd:FuncData}{x:Str}{sp:Sp}{s₁:Shared}{vs:List Value}{ns:List Int}
  (KX:K.In s₁.heap) (hns:s₁.heap.Ns mainGlobals mg) (hb:s₁.heap.Ns builtinsNs mb) (hbb:∀ x:Str,x≠"__name__"->mb x=bootBuiltins x) (hlim:s₁.heap.NoLimit) (hg:s₁.gens=#[])
  (ha:s₁.heap.get? a=some { cls:=.type "list",data:=.seq vs.toArray }) (hi:IntsAre vs ns) (hl:ns.length<=sizeLine) (hr:ZR k callerA)
  (F:∀ base:Heap,K.In base->base.Ns mainGlobals mg->Z6 P w K mg base CX k fa fd [x] sp) (hbind:∀ (s:Shared) (u:Value),BindsTo s fd ⟨[u],[]⟩ [(x,u)])
  (hsp:∀ H:Hp,Zj9 H->SqL K H a (ns.map V.int)->sp [.ref a] H (fun v _=>v=.bl true) fun _ _ _=>False)
  (hCX:∀ H e s',CX [] H s₁ (fun _ _ _=>False) e s'->False) :
  codeAny (model P w) callerA (.call (.ref fa) ⟨[.ref a],[]⟩) (fun r s'=>r=.ok (.ret (.bool true))/\OldK s₁.heap s'.heap/\s'.os=s₁.os/\AllBare s'.gens) s₁:=by
 have rv:=Z4G hi;have lenV:=hi.length;have core:∀ H:Hp,Zj9 H->SqL K H a (ns.map V.int)->HOk P w H s₁.heap->(∀ b,H b≠none->b=a)->(H a≠none->K.lookup a=none)->
   codeAny (model P w) callerA (.call (.ref fa) ⟨[.ref a],[]⟩) (fun r s'=>r=.ok (.ret (.bool true))/\OldK s₁.heap s'.heap/\s'.os=s₁.os/\AllBare s'.gens) s₁:=by
  intro H hO hS hok hA hK;have base_of:∀ {b:Addr} {o:Obj},s₁.heap.get? b=some o->H b=none->(Xe s₁.heap H).get? b=some o:=fun e n=>ZdD e n;have noA:∀ {b:Addr} {o:Obj} {es:Array DictEntry} {ep:Nat},s₁.heap.get? b=some o->o.data=.dict es ep->H b=none:=fun {b o es ep} e d=>by
   cases q:H b with
   | none=>rfl
   | some u=>
    have e':b=a:=hA b (by rw[q];simp);subst e';rw[ha]at e;cases e;have d':Data.seq vs.toArray _=Data.dict es ep:=d;cases d'
  have nsK:∀ {b:Addr} {m:Str->Option Value},s₁.heap.Ns b m->(Xe s₁.heap H).Ns b m:=fun {b m} ⟨o,es,ep,e,d,r⟩=>⟨o,es,ep,base_of e (noA e d),d,r⟩;have hKb:K.In (Xe s₁.heap H):=fun b o e=>base_of (KX b o e) (by
   cases q:H b with
   | none=>rfl
   | some u=>
    have e':b=a:=hA b (by rw[q];simp)
    subst e'
    rw[hK (by rw[q];simp)]at e;cases e)
  have hM:Mod K mg (Xe s₁.heap H):=⟨hKb,nsK hns,⟨mb,nsK hb,hbb⟩,let ⟨mc,h1,h2⟩:=hlim;⟨mc,nsK h1,h2⟩⟩;have e0:Wa P w K mg (Xe s₁.heap H) callerA [] s₁ H:=⟨rfl,hM,fun b o e=>Zf7 e,Nat.le_of_eq (ZbK _ _),trivial,fun b hb=>absurd (show b∈([]:List Addr) from hb) (by simp),hok,.of_eq hg⟩;refine codeAny_mono ((F _ hKb (nsK hns)).run callerA [] s₁ H ⟨[.ref a],[]⟩ [.ref a] [.ref a] _ _ hr e0 (hbind s₁ (.ref a)) (.cons rfl .nil) (hsp H hO hS)) fun r s' h=>?_;cases r with
  | error e=>exact (hCX H e s' h).elim
  | ok fl=>
   cases fl with
   | next=>exact False.elim h
   | brk=>exact False.elim h
   | cont=>exact False.elim h
   | ret u=>
    obtain⟨v,H',os,bare,un,hok',r',q⟩:=h;have q':v=.bl true:=q;subst q';obtain rfl:u=Value.bool true:=r';refine⟨rfl,OldK.of_keep fun b o e=>?_,os,bare⟩;cases q:H b with
    | none=>exact un.keep b o e q (by intro z;exact absurd (show b∈([]:List Addr) from z) (by simp)) (by simp)
    | some u=>
     rcases hO b with z|⟨ob,xs,z⟩
     ·rw[q]at z;cases z
     ·have z2:=un.frzs b ob _ z;obtain⟨e1,_⟩:=hok b _ z;obtain⟨e2,_⟩:=hok' b _ z2;rw[e]at e1;cases e1;exact e2
 cases hk:K.lookup a with
 | some o=>
  have e:=KX a o hk;rw[ha]at e;cases e;refine core (fun _=>none) (fun _=>.inl rfl) (.inr ⟨_,vs.toArray,_,hk,rfl,rfl,rfl,by rw[Y0e,lenV];exact hl,by simpa using rv⟩) (fun b u z=>by have z':(none:Option HO)=some u:=z;cases z') (fun b z=>absurd rfl z) fun z=>absurd rfl z
 | none=>
  refine core (fun b=>if b=a then some (.frz { cls:=.type "list",data:=.seq vs.toArray } (.lst (ns.map V.int))) else none) (fun b=>?_) (.inl (.inr ⟨{ cls:=.type "list",data:=.seq vs.toArray },if_pos rfl⟩)) (fun b u z=>?_) (fun b z=>?_) fun _=>hk
  ·by_cases hb:b=a
   ·exact .inr ⟨_,_,if_pos hb⟩
   ·exact .inl (if_neg hb)
  ·by_cases hb:b=a
   ·have z':=(if_pos hb).symm.trans z;cases z';subst hb;exact⟨ha,by rw[Y05];exact hl,vs,_,rv,ha⟩
   ·have z':=(if_neg hb).symm.trans z;cases z'
  ·by_cases hb:b=a
   ·exact hb
   ·exact absurd (if_neg hb) z
noncomputable abbrev KOf {K:Y00}{h:Heap}(_:K.In h):Y00:=K
theorem Zfl {l:PySem.W.OpenLaw}{n k:Nat}{q:Program}{loose:List Str}{XP:(Str->Option Value)->Heap->Prop}{YP:World->Heap->Prop}{d:DefRec}{K:Params->Y00}{CX:World->CXT}{sp:World->Sp}{x:Str}
  (hn:l.most=some n) (hn2:n<=sizeLine) (hdf:d.params.defaults=[]) (hr:ZR k callerA)
  (hY:∀ (w:World) (h:Heap),YP w h->(K w.params).In h)
  (F:∀ (w:World) (mg:Str->Option Value) (fa:Addr) (h:Heap),(K w.params).In h->h.Ns mainGlobals mg->mg d.name=some (.ref fa)->
   ∃ fd:FuncData,(∀ (s:Shared) (u:Value),BindsTo s fd ⟨[u],[]⟩ [(x,u)])/\
    ∀ base:Heap,(K w.params).In base->base.Ns mainGlobals mg->Z6 l.prog w (K w.params) mg base (CX w) k fa fd [x] (sp w))
  (hsp:∀ (w:World) (H:Hp) (a:Addr) (ns:List Int),ns.length<=n->Zj9 H->SqL (K w.params) H a (ns.map V.int)->sp w [.ref a] H (fun v _=>v=.bl true) fun _ _ _=>False)
  (hCX:∀ (w:World) (H:Hp) (s:Shared) (e:Value) (s':Shared),CX w [] H s (fun _ _ _=>False) e s'->False) :
  PySem.W.WalkO q loose XP YP l.row.toRowW d [] (fun f vs=>PySem.call f vs):=by
 refine Att.attach_call hn hdf fun w s₀ s₁ mg mb fa o pm cd doc a vs ns G Y ho hd hcd hmg hobj hints hlen hg=>?_;have KX:=hY w _ Y;obtain⟨fd,hb,hF⟩:=F w mg fa _ KX G.T.g hmg;exact ZdB KX G.T.g G.T.b G.T.builtins G.T.nolimit hg hobj hints (Y1c hlen hn2) hr hF hb (fun H hO hS=>hsp w H a ns hlen hO hS) fun H e s'=>hCX w H s₁ e s'
noncomputable def X7 (s:Stmt)(j:Nat):Stmt:=match s with
 | .ClassDef _ _ _ body _ _ _ _ _ _ _=>body.getD j (.Pass ⟨0,0,0,0⟩)
 | _=>.Pass ⟨0,0,0,0⟩
noncomputable def YL (s:Stmt):Arguments:=match s with
 | .FunctionDef _ a _ _ _ _ _ _ _ _=>a
 | _=>{ posonlyargs:=[],args:=[],vararg:=none,kwonlyargs:=[],kw_defaults:=[],kwarg:=none,defaults:=[] }
noncomputable def YY (s:Stmt):List Stmt:=match s with
 | .FunctionDef _ _ b _ _ _ _ _ _ _=>b
 | _=>[]
noncomputable def Z0 (s:Stmt):Scope:=match s with
 | .FunctionDef _ _ _ _ _ _ sc _ _ _=>sc
 | _=>{ kind:=.function,names:=[],isGenerator:=false,isCoroutine:=false }
noncomputable abbrev CX0:CXT:=fun _ _ _ _ _ _=>False
noncomputable abbrev E0:XK:=fun _ _ _=>False
theorem ZX {X:Cx}:Xy CX0 X E0:=fun _ _ _ _ _ _ _ h=>h.elim
structure Fun (K:Y00)(x qual:Str)(st:Stmt)(f:Addr)(fd:FuncData):Prop where
 ex:∃ (oc:Value) (od:Option Addr) (kV doc pm:Value) (an:Option Addr) (cdv ct:Value) (osl:Array (Option Value)),
  fd=Y17 x qual (YL st) (YY st) (Z0 st) .none kV doc pm an cdv ct/\K.lookup f=some ⟨oc,od,.func fd,osl⟩/\Y24 K cdv qual=true
 kp:Y18 K (.ref f)=true
section
variable {P:Program}{w:World}{K:Y00}{mg:Str->Option Value}{base:Heap}
theorem Fun.ok {x qual:Str}{st:Stmt}{f:Addr}{fd:FuncData}{N ps:List Str}{k:Nat}{sp:Sp}(F:Fun K x qual st f fd)(S:ZO N ps (Z0 st))(len:∀ vs H Q E,sp vs H Q E->vs.length=ps.length)
  (hbody:∀ (cdv:Value) (A:Around) (outer:List Env) (s:Shared) (H:Hp) (vs:List V) (Q:VK) (E:XK),ZR k (A.deeper (envOfC qual (Z0 st) s.heap.objs.size f cdv))->sp vs H Q E->
   ∃ t,PSs (Xt CX0 P w K mg base N qual (Z0 st) f cdv A outer s H E).nox (YY st) t/\t { nx:=fun _ H'=>Q .non H',rt:=Q } (start N vs) H):Z6 P w K mg base CX0 (k+1) f fd ps sp:=by
 obtain⟨oc,od,kV,doc,pm,an,cdv,ct,osl,rfl,lk,hcd⟩:=F.ex;refine Zez lk hcd S len fun A outer s H vs Q E hr hsp=>?_;obtain⟨t,h,q⟩:=hbody cdv A outer s H vs Q E hr hsp;exact⟨t,h.nox,q⟩
theorem Fun.binds {x qual:Str}{st:Stmt}{f:Addr}{fd:FuncData}{ps:List Str}(F:Fun K x qual st f fd)
  (h:∀ (kV doc pm:Value) (an:Option Addr) (cdv ct:Value) (us:List Value),us.length=ps.length->bindArgs (Y17 x qual (YL st) (YY st) (Z0 st) .none kV doc pm an cdv ct) ⟨us,[]⟩=pure (ps.zip us)):YV K fd ps []:=by
 obtain⟨oc,od,kV,doc,pm,an,cdv,ct,osl,rfl,lk,hcd⟩:=F.ex;exact .all (h kV doc pm an cdv ct)
theorem SD {x qual:Str}{st:Stmt}{f:Addr}{oc:Value}{od an:Option Addr}{osl:Array (Option Value)}{kV doc pm cdv ct:Value}(l:K.lookup f=some ⟨oc,od,.func (Y17 x qual (YL st) (YY st) (Z0 st) .none kV doc pm an cdv ct),osl⟩)
  (c:Y24 K cdv qual=true) (k:Y18 K (.ref f)=true):Fun K x qual st f (Y17 x qual (YL st) (YY st) (Z0 st) .none kV doc pm an cdv ct):=⟨⟨oc,od,kV,doc,pm,an,cdv,ct,osl,rfl,l,c⟩,k⟩
end
theorem Sx {A:Around}{k:Nat}(hr:ZR k A):A.units+1<cLine:=Y2f (Y3v (by decide:1<=64) _) hr.units
theorem Zj {n:Nat}(h:n<=1000):n<sizeLine:=Y2f h (by decide)
section
variable {X:Cx}
theorem pv (i:Nat){x:Str}{pos:Pos}(hN:X.N[i]?=some x:=by rfl)(hv:Vis X.env.scope x:=by first|exact Or.inl rfl|exact Or.inr (Or.inl rfl)|exact Or.inr (Or.inr rfl))(hd:(x==("__debug__":Str))=false:=by decide)
  (hcd:(x==("__classdict__":Str))=false:=by decide):PE X (.Name x pos) (ZW i):=Zgx hN hv hd hcd
end
theorem ZG {A B:Prop}(h:B):if false=true then A else B:=by
 rw[if_neg Y0g];exact h
theorem Zo {A B:Prop}(h:A):if true=true then A else B:=by
 rw[if_pos rfl];exact h
theorem Yv {c A B:Prop}[Decidable c](h1:c->A)(h2:¬ c->B):if c then A else B:=by
 by_cases h:c
 ·rw[if_pos h];exact h1 h
 ·rw[if_neg h];exact h2 h
theorem So {c A B:Prop}[Decidable c](hc:c)(h:B):if (!decide c)=true then A else B:=by
 rw[decide_eq_true hc];exact ZG h
def Z7 (H H':Hp):Prop:=∀ b o,H b=some o->H' b=some o
theorem Z7.refl (H:Hp):Z7 H H:=fun _ _ h=>h
theorem Z7.trans {H H1 H2:Hp}(a:Z7 H H1)(b:Z7 H1 H2):Z7 H H2:=fun c o h=>b c o (a c o h)
theorem Z7.free {H H':Hp}(e:Z7 H H'){l:Addr}(h:H' l=Option.none):H l=Option.none:=by
 cases q:H l with
 | none=>rfl
 | some o=>
  rw[e l o q]at h;cases h
theorem Z7.seq {K:Y00}{H H':Hp}{a:Addr}{xs:List V}(e:Z7 H H')(h:SqL K H a xs):SqL K H' a xs:=by
 rcases h with (h|⟨o,h⟩)|h
 ·exact .inl (.inl (e _ _ h))
 ·exact .inl (.inr ⟨o,e _ _ h⟩)
 ·exact .inr h
section
variable {X:Cx}
theorem Z7n:YM X (.builtin "len") (fun xs H Q=>∃ a kvs,xs=[V.ref a]/\H a=some (.dK kvs)/\Q (.int kvs.length) H):=by
 intro pins s σ H xs us Q I r h;obtain⟨a,kvs,rfl,ha,q⟩:=h;obtain⟨u,rfl,ru⟩:=YE r;cases ru;exact Zjo I (.inl ha) fun t s' I'=>⟨.int kvs.length,H,I',⟨t,rfl⟩,q⟩
end
section
variable {κ:Type}[DecidableEq κ]
theorem Z80 {kvs:List (κ×V)}{k:κ}{v:V}(h:Zl kvs k=some v):k∈kvs.map (·.1):=by
 have q:(kvs.any fun kv=>decide (kv.1=k))=true:=by
  rw[VY,h]
  all_goals rfl
 obtain⟨p,hp,e⟩:=Y2q.mp q;exact Y0d.mpr ⟨p,hp,of_decide_eq_true e⟩
end
theorem Z7x {prog:Program}{w:World}{A:Around}{R:Result->Shared->Prop}{s:Shared}{elt target iter:Expr}{scope:Scope}{pos:Pos}{it acc:Value}{env:Env}(I:Nat->Shared->Prop)
  (turn:∀ n s,I n s->wpAny (model prog w) A (pyNext it) (fun r s₁=>match r with
   | none=>R (.ok .next) s₁
   | some v=>wpAny (model prog w) A (letOwnedTupleGo target it v) (fun _ s₀=>wpAny (model prog w) A (assign target env v) (fun _ s₂=>
     wpAny (model prog w) A (eval elt env) (fun x s₄=>
       wpAny (model prog w) A (call (.builtin "list.append") [acc,x]) (fun _ s₅=>∃ m,m<n/\I m s₅) (notedBy (model prog w) A env fun e s'=>R (.error e) s') s₄) (notedBy (model prog w) A env fun e s'=>R (.error e) s') s₂)
     (notedBy (model prog w) A env fun e s'=>R (.error e) s') s₀) (notedBy (model prog w) A env fun e s'=>R (.error e) s') s₁) (notedBy (model prog w) A env fun e s'=>R (.error e) s') s)
  (n:Nat) (h:I n s) :
  codeAny (model prog w) A (.compLoop (.ListComp elt [⟨target,iter,[],0⟩] scope pos) 0 it acc env) R s:=by
 refine codeAny_loop rfl I (fun n s hI=>?_) n h;show wpAny _ A ((compTurn (.ListComp elt [⟨target,iter,[],0⟩] scope pos) 0 it acc env).onRaise (fun x=>do noteFrame x env;theTreesLotGoes x)) _ _ s;refine wpAny_noted ?_;rw[compTurn_list];refine wpAny_bind (wpAny_standAt (wpAny_bind (wpAny_mono (turn n s hI) (fun r s₁ h₁=>?_) fun _ _ h'=>h')));cases r with
 | none=>exact wpAny_pure h₁
 | some v=>
  refine wpAny_bind (wpAny_mono h₁ (fun _ s₀ h₀=>?_) fun _ _ h'=>h');refine wpAny_bind (wpAny_mono h₀ (fun _ s₂ h₂=>wpAny_bind (wpAny_tests_nil ?_)) fun _ _ h'=>h');exact wpAny_bind (wpAny_bind (wpAny_mono h₂ (fun x s₄ h₄=>wpAny_bind (wpAny_mono h₄ (fun _ s₅ h₅=>wpAny_pure (wpAny_pure ⟨rfl,h₅⟩)) fun _ _ h'=>h')) fun _ _ h'=>h'))
theorem V9 {env:Env}:∀ (names:List (Str×NameKind)) (cs:List (Str×Addr)),(∀ y∈names,y.2=.free->∃ c,env.cells.lookup y.1=some c)->(∀ x c,cs.lookup x=some c->env.cells.lookup x=some c)->
  ∃ cl,(forIn names cs (fun (x:Str×NameKind) (r:List (Str×Addr))=>if (x.2==NameKind.free)=true then do let c <-cellOf env x.1;pure (ForInStep.yield ((x.1,c)::r)) else pure (ForInStep.yield r)):Sem (List (Str×Addr)))=pure cl/\
   (∀ x c,cl.lookup x=some c->env.cells.lookup x=some c)/\(∀ x c,cs.lookup x=some c->cl.lookup x=some c)/\∀ y∈names,y.2=.free->∃ c,cl.lookup y.1=some c
 | [],cs,_,hcs=>⟨cs,by simp,hcs,fun _ _ h=>h,fun y hy=>nomatch hy⟩
 | (n,k)::r,cs,h,hcs=>by
  by_cases hk:k=.free
  ·subst hk;obtain⟨c,hc⟩:=h (n,.free) Y1r rfl;have hcs':∀ x d,((n,c)::cs).lookup x=some d->env.cells.lookup x=some d:=fun x d e=>by
    rw[Y1n]at e
    split at e
    ·rename_i q;have q':x=n:=by simpa using q
     cases e;rw[q'];exact hc
    ·exact hcs x d e
   obtain⟨cl,e,h1,h2,h3⟩:=V9 r ((n,c)::cs) (fun y hy=>h y (Y0r _ hy)) hcs';refine⟨cl,?_,h1,fun x d hd=>?_,fun y hy hy2=>?_⟩
   ·rw[Y2z];simp only[cellOf,hc,beq_self_eq_true,if_true,pure_bind];exact e
   ·refine h2 x d ?_;rw[Y1n]
    split
    ·rename_i q;have q':x=n:=by simpa using q
     have:=hcs x d hd;rw[q',hc]at this;exact this
    ·exact hd
   ·rcases Y0k.mp hy with rfl|hy
    ·exact⟨c,h2 n c (by simp[Y1n])⟩
    ·exact h3 y hy hy2
  ·obtain⟨cl,e,h1,h2,h3⟩:=V9 r cs (fun y hy=>h y (Y0r _ hy)) hcs;refine⟨cl,?_,h1,h2,fun y hy hy2=>?_⟩
   ·have hk':(k==NameKind.free)=false:=by simpa using hk
    rw[Y2z];simp only[hk',Bool.false_eq_true,if_false,pure_bind];exact e
   ·rcases Y0k.mp hy with rfl|hy
    ·exact absurd hy2 hk
    ·exact h3 y hy hy2
theorem Tz (scope:Scope)(env:Env):closureFor scope env=(forIn scope.names [] (fun (x:Str×NameKind) (r:List (Str×Addr))=>if (x.2==NameKind.free)=true then do let c <-cellOf env x.1;pure (ForInStep.yield ((x.1,c)::r)) else pure (ForInStep.yield r)):Sem (List (Str×Addr))):=by
 unfold closureFor;simp
theorem Z1V {env:Env}(hk:env.scope.kind=.function):∀ {names:List (Str×NameKind)} {x:Str},names.lookup x=some .free->env.kindOf x=some .cell->
  (names.map fun (n,k)=>if (k==NameKind.free&&env.scope.kind == .function&&env.kindOf n==some .cell) then (n,NameKind.cell) else (n,k)).lookup x=some .cell
 | [],_,h,_=>by simp at h
 | (n,k)::r,x,h,hc=>by
  have ih:=@Z1V env hk r x;show Y2h x ((if (k==NameKind.free&&env.scope.kind == .function&&env.kindOf n==some .cell)=true then (n,NameKind.cell) else (n,k))::_)=_;cases hx:x==n with
  | true=>
   simp only[Y1n,hx]at h;cases h;have e:x=n:=by simpa using hx
   subst e;simp[Y1n,hk,hc]
  | false=>
   simp only[Y1n,hx]at h
   by_cases hc':(k==NameKind.free&&env.scope.kind == .function&&env.kindOf n==some .cell)=true
   ·rw[if_pos hc'];simp only[Y1n,hx];exact ih h hc
   ·rw[if_neg hc'];simp only[Y1n,hx];exact ih h hc
theorem Z52 {env:Env}:∀ {names:List (Str×NameKind)} {x:Str},(∀ y∈names,y.2≠.cell)->
  ((names.map fun (n,k)=>if (k==NameKind.free&&env.scope.kind == .function&&env.kindOf n==some .cell) then (n,NameKind.cell) else (n,k)).lookup x=some .cell\/
  (names.map fun (n,k)=>if (k==NameKind.free&&env.scope.kind == .function&&env.kindOf n==some .cell) then (n,NameKind.cell) else (n,k)).lookup x=some .free)->(x,NameKind.free)∈names
 | [],_,_,h=>by simp at h
 | (n,k)::r,x,hn,h=>by
  have ih:=@Z52 env r x fun y hy=>hn y (Y0r _ hy);have hk:k≠.cell:=hn (n,k) Y1r;cases hx:x==n with
  | true=>
   have e:x=n:=by simpa using hx
   subst e
   by_cases hf:k=.free
   ·subst hf;exact Y1r
   ·have hf':¬ (k==NameKind.free&&env.scope.kind == .function&&env.kindOf x==some .cell)=true:=(by simp[hf]);simp only[Y0w,if_neg hf',Y1n,beq_self_eq_true]at h;rcases h with h|h
    ·exact absurd (Option.some.inj h) hk
    ·exact absurd (Option.some.inj h) hf
  | false=>
   refine Y0r _ (ih ?_)
   by_cases hc':(k==NameKind.free&&env.scope.kind == .function&&env.kindOf n==some .cell)=true
   ·simpa only [Y0w,if_pos hc',Y1n,hx] using h
   ·simpa only [Y0w,if_neg hc',Y1n,hx] using h
noncomputable def blk (X:Cx)(sc:Scope)(cl:List (Str×Addr))(C:Addr)(N':List Str)(s₂:Shared)(H₁:Hp)(fp:List Addr)(pins:List (Addr×Obj)):Cx where
 prog:=X.prog
 w:=X.w
 K:=X.K
 mg:=X.mg
 base:=X.base
 A:=X.A
 N:=N'
 s₀:=s₂
 H₀:=H₁
 env:=compEnvC sc cl C X.env
 outer:=X.stack
 stack:=X.stack
 ex:=fp
 fn:=fun _=>false
 calm:=X.calm
 pn:=X.pn++pins
 xe:=fun _ _=>False
structure Uj (N:List Str)(names:List (Str×NameKind))(N':List Str)(k:Nat)(pull:List Nat)(sc:Scope):Prop where
 kind:sc.kind=.function
 nocell:∀ y∈sc.names,y.2≠.cell
 loc:∀ y∈sc.names,y.2=.local->sc.names.lookup y.1=some .local
 len:N'.length=k+pull.length
 cap:∀ i∈Y03 pull.length,N'[k+i]?=N[pull.getD i 0]?/\∀ x∈(N'[k+i]?).toList,sc.names.lookup x=some .free
 fre:∀ y∈sc.names,y.2=.free->names.lookup y.1=some .cell
noncomputable def bst (k:Nat)(pull:List Nat)(σ:St):St:=Y0p k none++pull.map fun j=>σ.getD j none
theorem HOk.but {P:Program}{w:World}{H:Hp}{h h':Heap}{C:Addr}(x:HOk P w H h)(hn:H C=none)(k:∀ b o,b≠C->h.get? b=some o->h'.get? b=some o):HOk P w H h':=fun b u e=>by
 have nit:∀ b u,H b=some u->b≠C:=fun b u e z=>by rw[z,hn]at e;cases e
 refine (x b u e).stay (fun c v hc q=>k c v ?_ q) (fun _ q=>q) fun _ _ q=>q;rcases hc with z|z
 ·rw[z];exact nit b u e
 ·exact nit c _ z
noncomputable def YO (wi:TI)(k:Nat)(pull:List Nat)(g:TG)(te:TE):TE:=fun σ H Q=>wi σ H fun J H1=>∀ d,H1 d=none->
 ∃ W:Nat->Nat->St->Hp->Prop,(∃ m,W 0 m (bst k pull σ) (upd H1 d (.lst [])))/\∀ i m σ' H',W i m σ' H'->
  (J.stop i H'/\Q (.ref d) H')\/
  (J.go i H'/\∀ x H2,J.yld i H' x H2->g x σ' H2 fun σ3 H3=>te σ3 H3 fun y H4=>∃ xs,H4 d=some (.lst xs)/\xs.length<sizeLine/\∃ m',m'<m/\W (i+1) m' σ3 (upd H4 d (.lst (xs++[y]))))
section
variable {X:Cx}{elt tg iter:Expr}{sc:Scope}{pos:Pos}{wi:TI}{g:TG}{te:TE}{N:List Str}{names:List (Str×NameKind)}{N':List Str}{k:Nat}{pull:List Nat}
theorem Tq {pins:List (Addr×Obj)}{σ:St}{H1:Hp}{s2:Shared}{fp:List Addr}{cl:List (Str×Addr)}{h₁:Heap}{tk:Nat}(B:Uj N names N' k pull sc)(hN:X.N=N)(hnm:X.env.scope.names=names)
  (I2:Inv X pins σ H1 s2) (f2:∀ b∈fp,Yo X pins H1 b) (ho:∀ b∈fp,∃ o,s2.heap.get? b=some o)
  (c1:∀ x c,cl.lookup x=some c->X.env.cells.lookup x=some c) (c3:∀ y∈sc.names,y.2=.free->∃ c,cl.lookup y.1=some c)
  (hns:h₁.Ns (s2.heap.objs.size+1) (fun x=>([]:List (Str×Value)).reverse.lookup x))
  (hk:∀ b o,s2.heap.get? b=some o->h₁.get? b=some o) (hd:h₁.get? s2.heap.objs.size=some { cls:=.type "list",data:=.seq ([]:List Value).toArray }) :
  Inv (blk X sc cl (s2.heap.objs.size+1) N' s2 H1 fp pins) [] (bst k pull σ) (upd H1 s2.heap.objs.size (.lst [])) { s2 with heap:=h₁,toks:=tk }:=by
 have hfd:H1 s2.heap.objs.size=none:=I2.hok.fresh (Y04 _);have hfC:(upd H1 s2.heap.objs.size (.lst [])) (s2.heap.objs.size+1)=none:=by
  rw[ZZ (Y3n _)];exact I2.hok.fresh (Y2i _)
 have hlook:∀ x,(compEnvC sc cl (s2.heap.objs.size+1) X.env).kindOf x=some .cell\/(compEnvC sc cl (s2.heap.objs.size+1) X.env).kindOf x=some .free->(x,NameKind.free)∈sc.names:=fun x hx=>
  Z52 (env:=X.env) B.nocell hx
 have cellKind:∀ y∈sc.names,y.2=.free->X.env.kindOf y.1=some .cell:=fun y hy hf=>by
  show X.env.scope.names.lookup y.1=_;rw[hnm];exact B.fre y hy hf
 refine⟨⟨I2.ok.mod,B.kind,I2.ok.glob,I2.ok.blt,Y2i _,fun x y c e1 e2=>I2.ok.inj x y c (c1 x c e1) (c1 y c e2),fun x hx=>c3 _ (hlook x hx) rfl,(fun x c h _=>nomatch h),I2.ok.hd,I2.ok.frames,.inl rfl,fun b hb=>⟨?_,fun x c e=>?_⟩,I2.bs,Y1c I2.ok.bsz I2.sz,fun b o e hb=>?_,fun b hb hs=>?_,I2.stack,I2.stkFree⟩,
  rfl,I2.bare,Un.laid hk (Y04 _) hfd,⟨_,hns,fun i x v e1 e2 e3=>?_⟩,fun x c e=>?_,hfC,fun x c e=>?_,fun p hp=>?_,I2.hok.laid hk (Y04 _) ⟨Y0y _,[],0,.nil,hd⟩,?_⟩
 ·obtain⟨o,e⟩:=ho b hb;exact Y0j (Y1b (Y0a e))
 ·exact (f2 b hb).2.2.2.2.1 x c (c1 x c e)
 ·rcases (f2 b hb).2.2.2.1 with z|z
  ·exact I2.ok.noex b o e z
  ·exact absurd (Y0i (Y0a e) (Y1c I2.ok.bsz z)) (Y1o _)
 ·rcases Y0k.mp (I2.stkSub b hs) with z|z
  ·exact (f2 b hb).2.1 z
  ·exact (f2 b hb).2.2.1 z
 ·
  have e2:(bst k pull σ)[i]?=some (some v):=e2;unfold bst at e2
  by_cases hi:i<k
  ·rw[Y0z (by simpa using hi),Y3a,if_pos hi]at e2;cases e2
  ·rw[Y1q (by simpa using hi),Y2v,Y0l]at e2;cases ej:pull[i-k]? with
   | none=>rw[ej]at e2;cases e2
   | some j=>
    rw[ej]at e2;have e2:σ.getD j none=some v:=Option.some.inj e2;have hj:σ[j]?=some (some v):=by
     rw[Y0h]at e2;cases q:σ[j]? with
     | none=>rw[q]at e2;cases e2
     | some z=>rw[q]at e2;simpa using e2
    have hil:i-k<pull.length:=(Y07.mp ej).1;obtain⟨q1,q2⟩:=B.cap (i-k) (Y08.mpr hil);have ei:k+(i-k)=i:=(by omega);have ep:pull.getD (i-k) 0=j:=(by rw[Y0h,ej];rfl);have e1:N'[i]?=some x:=e1;rw[ei,ep,e1]at q1;rw[ei,e1]at q2;have hf:=q2 x (by simp);have hmem:=PySem.mem_of_lookup hf;have hc:=cellKind (x,.free) hmem rfl;obtain⟨m,hn,hl⟩:=I2.loc;obtain⟨u,r,l⟩:=hl j x v (by rw[hN];exact q1.symm) hj (.inr (.inl hc));refine⟨u,r,.inr ⟨.inl (Z1V I2.ok.kind hf hc),?_⟩⟩;rcases l with ⟨hloc,_⟩|⟨_,c,ec,hcell⟩
    ·rw[hc]at hloc;cases hloc
    ·obtain⟨c',ec'⟩:=c3 (x,.free) hmem rfl;have:=c1 x c' ec';rw[ec]at this;cases this;obtain⟨o,h1,h2⟩:=hcell;exact⟨c,ec',o,hk c o h1,h2⟩
 ·obtain⟨v,o,h1,h2⟩:=I2.cell x c (c1 x c e);exact⟨v,o,hk c o h1,h2⟩
 ·obtain⟨v,o,h1,h2⟩:=I2.cell x c (c1 x c e);rw[ZZ (Y0j (Y0a h1))];exact I2.freeC x c (c1 x c e)
 ·have hp:p∈X.pn++pins:=by simpa [blk] using hp
  obtain⟨a1,a2,a3,a4,a5⟩:=I2.pin p hp;have hlt:=Y0a a1;refine⟨hk _ _ a1,by rw[ZZ (Y0j hlt)];exact a2,?_,fun hs=>?_,a5⟩
  ·exact Y0j (Y1b hlt)
  ·rcases Y0k.mp (I2.stkSub p.1 hs) with z|z
   ·exact a3 z
   ·exact a4 z
 ·show (bst k pull σ).length=N'.length;unfold bst;rw[Y09,Y2v,Y05,B.len]
theorem Y6 (hc:X.calm=true)(B:Uj N names N' k pull sc)(hN:X.N=N)(hnm:X.env.scope.names=names)(hi:PI X tg iter wi)
  (hg:∀ cl C s₂ H₁ fp pins,PG (blk X sc cl C N' s₂ H₁ fp pins) tg g) (he:∀ cl C s₂ H₁ fp pins,PE (blk X sc cl C N' s₂ H₁ fp pins) elt te)
  (hs:∀ x,foldedSetIterable iter X.env x=pure x:=by intro _;rfl):PE X (.ListComp elt [⟨tg,iter,[],0⟩] sc pos) (YO wi k pull g te):=by
 intro pins s σ H Q I h;rw[eval_ListComp];have hcells:∀ y∈sc.names,y.2=.free->∃ c,X.env.cells.lookup y.1=some c:=fun y hy hf=>I.ok.has y.1 (.inl (by
  show X.env.scope.names.lookup y.1=_
  rw[hnm];exact B.fre y hy hf))
 obtain⟨cl,ecl,c1,_,c3⟩:=V9 (env:=X.env) sc.names [] hcells (fun x c e=>nomatch e);rw[<-Tz]at ecl;refine wpAny_comprehension_free (use:=none) rfl hs ecl B.kind B.loc (thn (hi pins s σ H _ I h) fun xv s1 h1=>thn h1 fun itv s2 h2=>?_);obtain⟨it,fp,tn,J,H1,e,I2,T,st2,f2,hW⟩:=h2;subst e;have ho:∀ b∈fp,∃ o,s2.heap.get? b=some o:=fun b hb=>let ⟨o,e,_⟩:=T.obj _ _ st2 b hb;⟨o,e⟩
 refine wpAny_newObj_type (wpAny_newFunctionEnv B.nocell (by intro y hy;simp at hy) (fun h₁ hns₁ hsb₁=>?_) B.kind);dsimp only at hns₁ hsb₁ ⊢;rw[Y19]at hns₁ hsb₁ ⊢;have old:∀ b o,s2.heap.get? b=some o->h₁.get? b=some o:=fun b o e=>by
  have hlt:=Y0a e;exact (hsb₁.2 b (Y0j (Y1b hlt))).trans (Y02 _ (Y02 _ e))
 have hd:h₁.get? s2.heap.objs.size=some { cls:=.type "list",data:=.seq ([]:List Value).toArray }:=
  (hsb₁.2 _ (Y0j (Y1t _))).trans (Y02 _ (Y06 _ rfl))
 have I4:=Tq (tk:=s2.toks+([]:List (Str×Value)).length) B hN hnm I2 f2 ho c1 c3 hns₁ old hd;have st4:tn 0 h₁:=T.keep _ _ _ st2 fun b _ o e=>old b o e;obtain⟨W,⟨m0,w0⟩,turn⟩:=hW s2.heap.objs.size (I2.hok.fresh (Y04 _));have fr4:∀ b∈fp,(upd H1 s2.heap.objs.size (.lst [])) b=none:=fun b hb=>by
  obtain⟨o,e⟩:=ho b hb;rw[ZZ (Y0j (Y0a e))];exact (f2 b hb).1
 have stat:∀ {H':Hp},(∀ b∈fp,H' b=none)->∀ b∈fp,Yo (blk X sc cl (s2.heap.objs.size+1) N' s2 H1 fp pins) [] H' b:=fun hn b hb=>by
  refine⟨hn b hb,(I4.ok.exf b hb).1,I4.ok.exfs b hb,.inl hb,(I4.ok.exf b hb).2,fun p hp=>?_⟩;have hp:p∈X.pn++pins:=by simpa [blk] using hp
  exact (f2 b hb).2.2.2.2.2 p hp
 have loop:∀ s₃:Shared,s₃={ s2 with heap:=h₁,toks:=s2.toks+([]:List (Str×Value)).length }->
   codeAny (model X.prog X.w) X.A (.compLoop (.ListComp elt [⟨tg,iter,[],0⟩] sc pos) 0 (.ref it) (.ref s2.heap.objs.size) (compEnvC sc cl (s2.heap.objs.size+1) X.env))
    (compPost (model X.prog X.w) X.A X.xe none (EP X pins σ Q) (.ref s2.heap.objs.size) (s2.heap.objs.size+1)) s₃:=by
  rintro s₃ rfl;refine Z7x (fun n s'=>∃ i σ' H',Inv (blk X sc cl (s2.heap.objs.size+1) N' s2 H1 fp pins) [] σ' H' s'/\tn i s'.heap/\(∀ b∈fp,H' b=none)/\W i n σ' H') ?_ m0 ⟨0,_,_,I4,st4,fr4,w0⟩;rintro n s3 ⟨i,σ3,H3,I3,st3,fr3,w3⟩;rcases turn i n σ3 H3 w3 with ⟨stop,q⟩|⟨go,step⟩
  ·refine thn (T.done (blk X sc cl (s2.heap.objs.size+1) N' s2 H1 fp pins) rfl rfl rfl hc i [] s3 σ3 H3 _ I3 (stat fr3) st3 stop) fun r s4 ⟨hr,I5⟩=>?_;subst hr;obtain⟨m,hn,_⟩:=id I5.loc;refine⟨m,hn,fun h' hs'=>?_⟩;have ne:∀ b o,s2.heap.get? b=some o->b≠s2.heap.objs.size+1:=fun b o e=>Y0j (Y1b (Y0a e));have U:Un (frs X.stack) fp H1 H3 s2.heap s4.heap:=I5.base;have U':Un (frs X.stack) fp H1 H3 s2.heap h':=⟨fun b o e n hb hx=>(hs'.2 b (ne b o e)).trans (U.keep b o e n hb hx),fun b o e n hb hx=>by
     obtain⟨sl,z⟩:=U.slot b o e n hb hx
     exact⟨sl,(hs'.2 b (ne b o e)).trans z⟩,U.free,fun b o e hx=>by
     obtain⟨o',z⟩:=U.there b o e hx
     exact⟨o',(hs'.2 b (ne b o e)).trans z⟩,U.tups,U.frzs,U.tbls⟩
   have hok:HOk X.prog X.w H3 h':=HOk.but (C:=s2.heap.objs.size+1) I5.hok I5.free fun b o hb e=>(hs'.2 b hb).trans e;refine⟨.ref s2.heap.objs.size,H3,I2.call' (s':={ s4 with heap:=h' }) I5.os U' hok I5.bare fun b hb=>?_,rfl,q⟩;exact⟨(f2 b hb).2.2.2.1,(f2 b hb).2.1,(f2 b hb).2.2.2.2.1,(f2 b hb).2.2.2.2.2⟩
  ·refine thn (T.item (blk X sc cl (s2.heap.objs.size+1) N' s2 H1 fp pins) rfl rfl rfl hc i [] s3 σ3 H3 _ I3 (stat fr3) st3 go) fun r s4 ⟨u,hr,h4⟩=>?_;subst hr;refine thn h4 fun _ s5 ⟨x,H5,I5,r5,y5,st5,fr5⟩=>?_;have I5':=I5.pinned (stat fr5) (T.obj _ _ st5);refine wpAny_mono (hg _ _ _ _ _ _ _ s5 σ3 H5 x u _ I5' r5 (step x H5 y5)) (fun _ s6 ⟨σ6,H6,I6,q6⟩=>?_) fun _ _ z=>z.elim;refine wpAny_mono (he _ _ _ _ _ _ _ s6 σ6 H6 _ I6 q6) (fun y s7 ⟨z,H7,I7,r7,xs,hx7,hz7,m',hm,w7⟩=>?_) fun _ _ z=>z.elim;refine wpAny_mono (YU (X:=blk X sc cl (s2.heap.objs.size+1) N' s2 H1 fp pins) _ s7 σ6 H7 (.ref s2.heap.objs.size) [z] (.ref s2.heap.objs.size) [y] (fun _ H8=>H8=upd H7 s2.heap.objs.size (.lst (xs++[z]))) I7 rfl (.cons r7 .nil) ⟨_,xs,z,rfl,rfl,hx7,hz7,rfl⟩) (fun _ s8 ⟨_,H8,I8,_,e8⟩=>?_) fun _ _ z=>z.elim;subst e8;refine⟨m',hm,i+1,σ6,_,I8.unpinned,T.keep _ _ _ st5 fun b hb o e=>(I8.pin (b,o) (Y0b _ (Y0b _ (Yn hb e)))).1,fun b hb=>?_,w7⟩;obtain⟨o,e,_⟩:=T.obj _ _ st5 b hb;exact (I8.pin (b,o) (Y0b _ (Y0b _ (Yn hb e)))).2.1
 exact codeAny_compStart_list (loop _ rfl) (T.self _ 0 _ _ _ st4 (loop _ rfl))
end
end L2
namespace L2
open PySem
open AutoSeq1 (wpAny_loadPart')
section
variable {prog:Program}{w:World}{A:Around}{E:Value->Shared->Prop}{s:Shared}
theorem Z4d {it l:Addr}{i:Nat}{items}{x:Value}{Q:Value->Shared->Prop}(hit:s.heap.IsTupleIter it l i)
  (hl:s.heap.IsTuple l items) (hx:items[i]?=some x)
  (hQ:∀ h',h'.IsTupleIter it l (i+1)->Y3j it s.heap h'->Q x { s with heap:=h' }) :
  wpAny (model prog w) A (Builtin.SmallTypes.nextOf (.ref it)) Q E s:=by
 obtain⟨o,ho,hc,hd⟩:=id hit;obtain⟨ol,hol,_,nl,hdl⟩:=hl;unfold Builtin.SmallTypes.nextOf;refine wpAny_bind (wpAny_callSpecial?_slot (name:=Str.ofString "__next__") hit.typeIs F.slot_tuple_iterator_next
  (wpAny_call_entry F.slot_tuple_iterator_next hit.typeIs F.entry_tuple_iterator_next ?_ (F.args_tuple_iterator_next_1 _)))
 show wpAny _ _ (field (.ref it) 0 >>= _) _ _ s;refine wpAny_bind (wpAny_field ho hd (x:=.ref l) rfl ?_);show wpAny _ _ (if (Value.ref l==Value.none)=true then _ else _) _ _ s;rw[if_neg (show ¬ ((Value.ref l==Value.none)=true) from Y0g)];show wpAny _ _ (field (.ref it) 1 >>= _) _ _ s;refine wpAny_bind (wpAny_field ho hd (x:=.int i 0) rfl ?_);show wpAny _ _ (seqItems? (.ref l) >>= _) _ _ s;refine wpAny_bind (wpAny_seqItems hol hdl ?_);simp only[Y0q,hx];refine wpAny_bind (wpAny_setField ho hd (by simp) (wpAny_pure ⟨x,rfl,wpAny_pure (hQ _ ?_ (Heap.SameBut.update ..))⟩));exact⟨_,Y27 _ ho (Obj.isFreed_of_fields (Obj.data_mapFields hd _)),(Obj.cls_mapFields ..).trans hc,by
  rw[Obj.data_mapFields hd];simp[rawInt]⟩
theorem Z4q {it l:Addr}{i:Nat}{items}{Q:Value->Shared->Prop}(hh:A.handled=none)
  (hit:s.heap.IsTupleIter it l i) (hl:s.heap.IsTuple l items) (hx:items[i]?=none)
  (hE:∀ h' e,Heap.ExtBut it s.heap h'->(∃ o,h'.get? e=some o/\o.cls=.type "StopIteration")->E (.ref e) { s with heap:=h' }) :
  wpAny (model prog w) A (Builtin.SmallTypes.nextOf (.ref it)) Q E s:=by
 obtain⟨o,ho,hc,hd⟩:=id hit;obtain⟨ol,hol,_,nl,hdl⟩:=hl;unfold Builtin.SmallTypes.nextOf;refine wpAny_bind (wpAny_callSpecial?_slot (name:=Str.ofString "__next__") hit.typeIs F.slot_tuple_iterator_next
  (wpAny_call_entry F.slot_tuple_iterator_next hit.typeIs F.entry_tuple_iterator_next ?_ (F.args_tuple_iterator_next_1 _)))
 show wpAny _ _ (field (.ref it) 0 >>= _) _ _ s;refine wpAny_bind (wpAny_field ho hd (x:=.ref l) rfl ?_);show wpAny _ _ (if (Value.ref l==Value.none)=true then _ else _) _ _ s;rw[if_neg (show ¬ ((Value.ref l==Value.none)=true) from Y0g)];show wpAny _ _ (field (.ref it) 1 >>= _) _ _ s;refine wpAny_bind (wpAny_field ho hd (x:=.int i 0) rfl ?_);show wpAny _ _ (seqItems? (.ref l) >>= _) _ _ s;refine wpAny_bind (wpAny_seqItems hol hdl ?_);simp only[Y0q,hx];refine wpAny_bind (wpAny_rule (wpAny_bind (wpAny_setField ho hd (by simp) ?_)));show wpAny _ _ (newExc (.type "StopIteration") [] >>= _) _ _ _;refine wpAny_bind ?_;simp only[newExc,newTuple];refine wpAny_bind (wpAny_newObj_type ?_ (by size_fits));refine wpAny_bind (m:=firstArgMember _ _) (wpAny_of_eq (a:=Value.none) (by first|rfl|(simp only[firstArgMember];rfl)) ?_);refine wpAny_newObj_type ?_ (by size_fits);simp only[raiseNew];refine wpAny_bind (wpAny_handled ?_)
 first|rw[show A.in1.handled=none from hh]|rw[hh]
 refine wpAny_bind (wpAny_pure (wpAny_throw ?_));exact hE _ _ (((Heap.SameBut.update ..).extBut.push _).push _) ⟨_,Y06 _ rfl,rfl⟩
end
theorem Z7H {prog:Program}{w:World}{A:Around}(hh:A.handled=none)(it l:Addr)(hne:l≠it)(items:Array Value) :
  Draws prog w A it [it,l] items.size (fun i v=>items[i]?=some v) (fun i h=>h.IsTupleIter it l i/\h.IsTuple l items) where
 live:=fun _ _ st=>let ⟨⟨o,ho,_⟩,_⟩:=st;⟨o,ho⟩
 frame:=fun _ _ _ st hk=>⟨let ⟨o,ho,r⟩:=st.1;⟨o,hk it (by simp) o ho,r⟩,let ⟨o,ho,r⟩:=st.2;⟨o,hk l (by simp) o ho,r⟩⟩
 item:=fun i s Q E hi st hQ=>by
  refine Z4d st.1 st.2 (x:=items[i]) (by simp[hi]) fun h' hit' hs'=>?_;exact hQ _ h' s.toks (by simp[hi]) ⟨hit',let ⟨o,ho,r⟩:=st.2;⟨o,(hs'.2 l hne).trans ho,r⟩⟩ hs'
 done:=fun s Q E st hE=>Z4q hh st.1 st.2 (by simp) hE
theorem Z36 (l:Addr)(items:Array Value)(o:Obj)(hc:o.cls=.type "tuple")(n:Nat)(hd:o.data=.seq items n) :
  Meets (Builtin.«enumerate.__new__» ⟨[.type "enumerate",.ref l],[]⟩) (fun _ R s=>s.heap.get? l=some o/\
   R (.ok (.ret (.ref (s.heap.push { cls:=.type "tuple_iterator",data:=.fields #[.ref l,.int 0 0] }).objs.size)))
    { s with heap:=(s.heap.push { cls:=.type "tuple_iterator",data:=.fields #[.ref l,.int 0 0] }).push { cls:=.type "enumerate",data:=.fields #[.none,.bool false,.ref s.heap.objs.size,rawInt 0,.none,.none] } }):=
 .of_wp fun prog w A R s h=>by
  obtain⟨hp,g,d,tk,os⟩:=s;obtain⟨hl,h⟩:=h;have hsub:=sub_enumerate;have hL:Heap.IsTuple (Shared.heap ⟨hp,g,d,tk,os⟩) l items:=⟨_,hl,hc,n,hd⟩
  wp_walk using wpAny_loadPart' hl
  refine wpAny_stack_any fun st=>wpAny_pure ?_
  split
  ·rename_i c _ _ _ _ _;cases (c==Value.type "enumerate")
   ·wp_walk using wpAny_loadPart' hl,wpAny_pyIter_tuple hL
    exact⟨_,rfl,h⟩
   ·wp_walk using wpAny_loadPart' hl,wpAny_pyIter_tuple hL
    exact⟨_,rfl,h⟩
  ·wp_walk using wpAny_loadPart' hl,wpAny_pyIter_tuple hL
   exact⟨_,rfl,h⟩
theorem Z38 {prog:Program}{w:World}{A:Around}{E:Value->Shared->Prop}{s:Shared}{l:Addr}{items:Array Value}{Q:Value->Shared->Prop}(hL:s.heap.IsTuple l items)
  (h:∀ h',IsEnum h' (s.heap.objs.size+1) s.heap.objs.size 0 .none->h'.IsTupleIter s.heap.objs.size l 0->h'.objs.size=s.heap.objs.size+2->
   (∀ b o,s.heap.get? b=some o->h'.get? b=some o)->Q (.ref (s.heap.objs.size+1)) { s with heap:=h' }) :
  wpAny (model prog w) A (call (.type "enumerate") [.ref l]) Q E s:=by
 obtain⟨o,hl,hc,n,hd⟩:=hL;refine callType_new F.called_enumerate (by decide) (F.typeCall_enumerate_1 _) (F.newCall_enumerate_1 _) (fun obj=>F.args_object_init_2 obj _) F.entry_enumerate_new
  (Z36 l items o hc n hd) ⟨hl,?_⟩
 have hz:(s.heap.push { cls:=.type "tuple_iterator",data:=.fields #[.ref l,.int 0 0] }).objs.size=s.heap.objs.size+1:=Y19 ..;show _/\_;rw[hz];have he:IsEnum ((s.heap.push { cls:=.type "tuple_iterator",data:=.fields #[.ref l,.int 0 0] }).push
   { cls:=.type "enumerate",data:=.fields #[.none,.bool false,.ref s.heap.objs.size,rawInt 0,.none,.none] }) (s.heap.objs.size+1) s.heap.objs.size 0 .none:=by
  have:=Y06 (s.heap.push { cls:=.type "tuple_iterator",data:=.fields #[.ref l,.int 0 0] })
   (o:={ cls:=.type "enumerate",data:=.fields #[.none,.bool false,.ref s.heap.objs.size,rawInt 0,.none,.none] }) rfl
  rw[hz]at this;exact this
 refine⟨⟨_,he,rfl⟩,h _ he ⟨_,Y02 _ (Y06 _ rfl),rfl,rfl⟩ (by rw[Y19,hz]) fun b o x=>Y02 _ (Y02 _ x)⟩
end L2
namespace L2
open PySem PySem.Spec PyProof.Rows
section
variable {X:Cx}
theorem Xa:YM X (.builtin "isinstance") (fun xs H Q=>∃ x c t b,xs=[x,.ty c]/\YB X.K H x t/\Y23 X.K t (.type c)=some b/\Q (.bl b) H):=by
 intro pins s σ H xs us Q I r h;obtain⟨x,c,t,b,rfl,ty,e,q⟩:=h;obtain⟨u,w',rfl,ru,rc⟩:=ZgY r;obtain rfl:w'=Value.type c:=rc;exact ZbJ I ru ty e fun tk=>⟨.bl b,H,I.tok _,rfl,q⟩
end
theorem Z5g (K:Y00):Y23 K (.type "int") (.type "int")=some true:=by kernel_rfl
theorem Z4k (K:Y00):Y23 K (.type "int") (.type "bool")=some false:=by kernel_rfl
theorem Z4O (K:Y00):Y23 K (.type "tuple") (.type "tuple")=some true:=by kernel_rfl
theorem Z6u (K:Y00):Y23 K (.type "list") (.type "list")=some true:=by kernel_rfl
mutual
inductive Dt (K:Y00) (H:Hp):V->PyData->Prop
 | non:Dt K H .non .none
 | bl (b:Bool):Dt K H (.bl b) (.bool b)
 | int (i:Int):Dt K H (.int i) (.int i)
 | str (x:Str):Dt K H (.str x) (.str x)
 | lst {a:Addr} {xs:List V} {ds:List PyData}:SqL K H a xs->X4 K H xs ds->Dt K H (.ref a) (.list ds)
 | tup {a:Addr} {xs:List V} {ds:List PyData}:SqT K H a xs->X4 K H xs ds->Dt K H (.ref a) (.tuple ds)
inductive X4 (K:Y00) (H:Hp):List V->List PyData->Prop
 | nil:X4 K H [] []
 | cons {x:V} {d:PyData} {xs:List V} {ds:List PyData}:Dt K H x d->X4 K H xs ds->X4 K H (x::xs) (d::ds)
end
section
variable {X:Cx}{pins:List (Addr×Obj)}{σ:St}{H:Hp}{s:Shared}
mutual
theorem Dt.reads (I:Inv X pins σ H s):∀ {x:V} {d:PyData} {u:Value},Dt X.K H x d->ZI x u->∃ as,Reads s.heap u d as
 | _,_,_,.non,r=>by obtain rfl:=(show _=Value.none from r);exact⟨_,.none⟩
 | _,_,_,.bl b,r=>by obtain rfl:=(show _=Value.bool b from r);exact⟨_,.bool b⟩
 | _,_,_,.int i,r=>by obtain⟨t,rfl⟩:=r;exact⟨_,.int i t⟩
 | _,_,_,.str x,r=>by obtain⟨t,rfl⟩:=r;exact⟨_,.str x t⟩
 | _,_,_,@Dt.lst _ _ a xs ds hq ha,r=>by
  obtain rfl:=(show _=Value.ref a from r);obtain⟨its,rv,⟨o,n,h1,h2,h3,h4⟩,hz⟩:=I.list hq;obtain⟨as,ra⟩:=X4.reads I ha rv;exact⟨_,.list h1 h2 h4 (by simpa using ra)⟩
 | _,_,_,@Dt.tup _ _ a xs ds hq ha,r=>by
  obtain rfl:=(show _=Value.ref a from r);obtain⟨its,rv,⟨o,h1,h2,n,h3⟩,hz⟩:=I.tuple hq;obtain⟨as,ra⟩:=X4.reads I ha rv;exact⟨_,.tuple h1 h2 h3 (by simpa using ra)⟩
theorem X4.reads (I:Inv X pins σ H s):∀ {xs:List V} {ds:List PyData} {us:List Value},X4 X.K H xs ds->ZT xs us->∃ as,ReadsAll s.heap us ds as
 | _,_,_,.nil,r=>by cases r;exact⟨_,.nil⟩
 | _,_,_,.cons h t,r=>by
  cases r with
  | cons r rr=>
   obtain⟨a1,h1⟩:=Dt.reads I h r;obtain⟨a2,h2⟩:=X4.reads I t rr;exact⟨_,.cons h1 h2⟩
end
noncomputable def rEqD (K:Y00)(A:Around)(neg:Bool):R2:=fun x y H Q=>∃ d e,Dt K H x d/\Dt K H y e/\d.canLay0=true/\e.canLay0=true/\A.units+min d.depth e.depth<cLine/\Q (.bl (if neg then !PyData.eqv d e else PyData.eqv d e)) H
theorem Zek:OpR X (compareOp .NotEq) (rEqD X.K X.A true):=by
 intro pins s σ H x y v u Q I rx ry h;obtain⟨d,e,hd,he,c1,c2,hu,q⟩:=h;obtain⟨as,ra⟩:=Dt.reads I hd rx;obtain⟨bs,rb⟩:=Dt.reads I he ry;exact SeqAt.compareNe_reads ra rb c1 c2 hu ⟨.bl _,H,I,rfl,q⟩
end
noncomputable def nv (xs:List Nat):List V:=xs.map fun (n:Nat)=>V.int (n:Int)
noncomputable def nd (xs:List Nat):List PyData:=xs.map fun (n:Nat)=>PyData.int (n:Int)
theorem ZQ (xs:List Nat):(nv xs).length=xs.length:=by simp[nv]
theorem Zy {xs:List Nat}{i:Nat}{x:Nat}(h:xs[i]?=some x):(nv xs)[i]?=some (.int (x:Int)):=by simp[nv,h]
theorem VH {xs:List Nat}{i:Nat}{v:V}(h:(nv xs)[i]?=some v):∃ x,xs[i]?=some x/\v=.int (x:Int):=by
 rw[nv,Y0l]at h;cases e:xs[i]? with
 | none=>rw[e]at h;cases h
 | some x=>rw[e]at h;exact⟨x,rfl,(Option.some.inj h).symm⟩
theorem XD (xs:List Nat)(x:Nat):nv xs++[.int (x:Int)]=nv (xs++[x]):=by simp[nv]
theorem SJ {K:Y00}{H:Hp}:∀ xs:List Nat,X4 K H (nv xs) (nd xs)
 | []=>.nil
 | x::xs=>.cons (.int _) (SJ xs)
theorem Ui:∀ xs:List Nat,PyData.canLayAll0 (nd xs)=true
 | []=>rfl
 | x::xs=>by show (PyData.canLay0 (PyData.int _)&&PyData.canLayAll0 (nd xs))=true;rw[Ui xs];rfl
theorem SS:∀ xs ys:List Nat,PyData.eqvAll (nd xs) (nd ys)=decide (xs=ys)
 | [],[]=>rfl
 | [],y::ys=>rfl
 | x::xs,[]=>rfl
 | x::xs,y::ys=>by
  show (((x:Int)==(y:Int))&&PyData.eqvAll (nd xs) (nd ys))=_;rw[SS xs ys]
  by_cases e:x=y
  ·subst e
   by_cases e':xs=ys<;>simp[e']
  ·have:((x:Int)==(y:Int))=false:=by simpa using fun h:(x:Int)=y=>e (by omega)
   simp[this,e]
noncomputable def sd (r u:List Nat):PyData:=.tuple [.tuple (nd r),.tuple (nd u)]
theorem Zgm (r u r' u':List Nat):PyData.eqv (sd r u) (sd r' u')=(decide (r=r')&&decide (u=u')):=by
 show (PyData.eqvAll (nd r) (nd r')&&(PyData.eqvAll (nd u) (nd u')&&true))=_;rw[SS,SS,Bool.and_true]
theorem ZdP (r u:List Nat):(sd r u).canLay0=true:=by
 show (PyData.canLayAll0 (nd r)&&(PyData.canLayAll0 (nd u)&&true))=true;rw[Ui,Ui];rfl
def ZN (H:Hp)(a:Addr)(r u:List Nat):Prop:=∃ p q,H a=some (.tup [.ref p,.ref q])/\H p=some (.tup (nv r))/\H q=some (.tup (nv u))
theorem ZN.dt {K:Y00}{H:Hp}{a:Addr}{r u:List Nat}(h:ZN H a r u):Dt K H (.ref a) (sd r u):=by
 obtain⟨p,q,h1,h2,h3⟩:=h;exact .tup (SqT.of h1) (.cons (.tup (SqT.of h2) (SJ r)) (.cons (.tup (SqT.of h3) (SJ u)) .nil))
theorem ZN.same {H H':Hp}{a:Addr}{r u:List Nat}(e:Z7 H H')(h:ZN H a r u):ZN H' a r u:=by
 obtain⟨p,q,h1,h2,h3⟩:=h;exact⟨p,q,e _ _ h1,e _ _ h2,e _ _ h3⟩
theorem Zgq:isSubtype (.type "tuple") (.type "set")=pure false:=by rw[isSubtype_type];kernel_rfl
theorem Zgt:isSubtype (.type "tuple") (.type "frozenset")=pure false:=by rw[isSubtype_type];kernel_rfl
section
variable {prog:Program}{w:World}{A:Around}{E:Value->Shared->Prop}{s:Shared}
noncomputable abbrev W4 (led:Bool):Obj:={ cls:=.type "set",dict:=none,data:=.set #[] 0 (.fresh 0 0 led) }
def Z8j (prog:Program)(w:World)(s:Shared)(ns:List Int)(n:Nat)(s':Shared):Prop:=∃ h' tk,s'={ s with heap:=h',toks:=tk }/\
 h'.SetOf (intKind prog w) s.heap.objs.size (fun k'=>(firstMet (fun i=>ns.getD i 0) n).any (· == k')) (firstMet (fun i=>ns.getD i 0) n).length/\
 ∀ b o,b<s.heap.objs.size->s.heap.get? b=some o->h'.get? b=some o
set_option maxHeartbeats 3200000 in
theorem Z6L {l:Addr}{items:Array Value}{ns:List Int}{led:Bool}(hh:A.handled=none)(hl:s.heap.IsTuple l items)(hi:IntsAre items.toList ns)(hb:items.size+1<scanBound) :
  wpAny (model prog w) A (Builtin.«set.__init__» ⟨[.ref s.heap.objs.size,.ref l],[]⟩) (fun fin s₂=>fin=.done (.ret .none)/\Z8j prog w s ns items.size s₂) E { s with heap:=s.heap.push (W4 led) }:=by
 have hS:(s.heap.push (W4 led)).get? s.heap.objs.size=some (W4 led):=Y06 _ rfl;obtain⟨ol,hol,hcl,nl,hdl⟩:=hl;obtain⟨oc,od,oda,osl⟩:=ol;simp only at hcl hdl;subst hcl;subst hdl;have hol':=Y02 (W4 led) hol;have q1:=Zgq;have q2:=Zgt;have q3:(Value.type "tuple" == Value.type "dict")=false:=by decide
 have hl1:(s.heap.push (W4 led)).IsTuple l items:=⟨_,hol',rfl,nl,rfl⟩;have hlS:l<s.heap.objs.size:=Y0a hol;unfold Builtin.«set.__init__» noKeywords Builtin.Frozenset.updateFrom;generalize hPI:pyIter=PI
 wp_walk
 subst hPI;refine wpAny_pyIter_tuple hl1 (wpAny_bind (wpAny_runValue ?_));have hz:(s.heap.push (W4 led)).objs.size=s.heap.objs.size+1:=Y19 ..;rw[hz];refine codeAny_set_update_loopS ((Walks.tuple (by simp[hh]) (s.heap.objs.size+1) l (Y0j (Y1b hlS)) items).toS) s.heap.objs.size (fun hm=>(Y0k.mp hm).elim (Y0j (Y1t _)) fun hm=>Y2e hlS (Y0c.mp hm)) (fun i=>ns.getD i 0) (fun i v hv=>IntsAre.int_at hi i v (by rw[Y2w];exact hv)) hb (items.size-0) 0 _ (by omega) (Y0y _)
  ⟨⟨_,hz ▸ Y06 _ rfl,rfl,rfl⟩,⟨_,Y02 _ hol',rfl,nl,rfl⟩⟩ ?_ ?_
 ·exact SetOf_congr ((setObjOf_fresh (knd:=intKind prog w) led).setOf (Y02 _ hS) (by unfold scanBound;omega)) (fun _=>rfl) rfl
 ·intro s' hm hS';obtain⟨h',g',d',tk',os'⟩:=s';have eg:g'=s.gens:=hm.gens;have ed:d'=s.drawn:=hm.drawn;have eo:os'=s.os:=hm.os;subst eg;subst ed;subst eo;show wpAny _ _ _ _ _ _;refine wpAny_pure ?_;show wpAny _ _ (ret Value.none) _ _ _;refine wpAny_pure ⟨rfl,h',tk',rfl,hS',fun b o hlt e=>?_⟩;exact hm.heap b o (fun q=>(Y0k.mp q).elim (Y0j hlt) fun q=>Y0j (Y1b hlt) (Y0c.mp q)) (Y02 _ (Y02 _ e))
theorem Z7c {l:Addr}{items:Array Value}{ns:List Int}{Q:Value->Shared->Prop}(hh:A.handled=none)(hl:s.heap.IsTuple l items)(hi:IntsAre items.toList ns)(hb:items.size+1<scanBound)
  (h:∀ s',Z8j prog w s ns items.size s'->Q (.ref s.heap.objs.size) s'):wpAny (model prog w) A (call (.type "set") [.ref l]) Q E s:=by
 have m0:=F.called_set.mro;obtain⟨c,tl,m1⟩:=m0;have m2:=F.called_set.made;have m3:=F.called_set.sub;have m4:=F.called_set.notType;have m5:=F.called_set.canCreate;have m6:=F.typeCall_set_1 (.ref l);refine wpAny_call (codeAny_of_tree (show wpAny _ _ (callAny (.type "set") _) _ _ _ from ?_));refine wpAny_pure ⟨Code.quiet_builtin _ (by decide +kernel),codeAny_builtin F.entry_type_call ?_⟩;rw[Around.under_plain (weight_type_call_type "set" [.ref l] []) rfl]
 repeat (any_goals (first|assumption|wp_step))
 refine codeAny_mono (code_set_new_1 (.ref l) (E:=E) (Q₁:=fun obj s₁=>∃ led:Bool,obj=.ref s.heap.objs.size/\s₁={ s with heap:=s.heap.push (W4 led) }) fun led=>⟨led,rfl,rfl⟩) fun r s₁ hr=>?_
 match r,hr with
 | .error e,hr=>exact hr
 | .ok .next,hr=>exact hr.elim
 | .ok .brk,hr=>exact hr.elim
 | .ok .cont,hr=>exact hr.elim
 | .ok (.ret obj),hr=>
  obtain⟨led,rfl,rfl⟩:=hr;have hT:Shared.TypeIs { s with heap:=s.heap.push (W4 led) } (.ref s.heap.objs.size) "set":=⟨_,Y06 _ rfl,rfl⟩;have m7:=F.called_set.init.lookup;have m8:=F.called_set.init.bind (.ref s.heap.objs.size)
  repeat (any_goals (first|assumption|wp_step))
  refine codeAny_mono (codeAny_call_builtin (R:=wants (fun r s₂=>r=.none/\Z8j prog w s ns items.size s₂) E) F.called_set.init.plain F.entry_set_init (check_set_init_1 hT ?_)) fun r₂ s₂ hr₂=>?_
  ·refine wpAny_mono (Z6L (by simp[hh]) hl hi hb) (fun fin s₂ ⟨e,q⟩=>?_) fun e s₂ q=>q;subst e;exact⟨rfl,q⟩
  ·match r₂,hr₂ with
   | .error e,hr₂=>exact hr₂
   | .ok .next,hr₂=>exact hr₂.elim
   | .ok .brk,hr₂=>exact hr₂.elim
   | .ok .cont,hr₂=>exact hr₂.elim
   | .ok (.ret r),hr₂=>
    obtain⟨rfl,q⟩:=hr₂
    repeat (any_goals (first|assumption|wp_step))
    exact h _ q
theorem Z7X {l:Addr}{vs:List Value}{Q:List Value->Shared->Prop}(hl:s.heap.IsTuple l vs.toArray)(hz:vs.length<=sizeLine)
  (h:∀ h',(∀ b o,s.heap.get? b=some o->h'.get? b=some o)->Q vs { s with heap:=h' }):wpAny (model prog w) A (collect (.ref l)) Q E s:=by
 obtain⟨o,ho,hc,n,hd⟩:=hl;unfold collect;refine wpAny_bind (wpAny_runValue (codeAny_builtin entry_proto_collect' ?_));show wpAny _ _ (do again (.builtin "list.__iadd__" ⟨[<-newList [],.ref l],[]⟩)) _ _ s;refine wpAny_bind (wpAny_newList (wpAny_pure ⟨Code.quiet_builtin _ (by decide +kernel),codeAny_builtin entry_list_iadd' ?_⟩));have ho':(s.heap.push (seqObj "list" #[] 0)).get? l=some o:=Y02 _ ho;show wpAny _ _ (Builtin.List.listExtendWith (.ref s.heap.objs.size) (.ref l) (.ref s.heap.objs.size)) _ _ { s with heap:=s.heap.push (seqObj "list" #[] 0) };unfold Builtin.List.listExtendWith;refine wpAny_bind (wpAny_typeOf (T:="tuple") ⟨o,ho',hc⟩ ?_);rw[if_pos (show (Builtin.List.listSameRef (.ref s.heap.objs.size) (.ref l)||Value.type "tuple" == Value.type "list" || Value.type "tuple" == Value.type "tuple")=true by
  rw[show (Value.type "tuple" == Value.type "tuple")=true from rfl,Bool.or_true])]
 refine wpAny_bind (listItems_at ho' hd (wpAny_bind (listItems_at (xs:=#[]) (n:=0) (Y06 _ rfl) rfl ?_)));rw[if_neg (by simp)];refine wpAny_bind (listUpdate_at (xs:=#[]) (n:=0) (Y06 _ rfl) rfl ?_ (Y0y _) (by show (#[]++vs.toArray).size<=sizeLine+1;simp;omega));refine wpAny_pure ?_;refine wpAny_bind (wpAny_load (get?_update_seq (Y06 _ rfl) _) ?_);show wpAny _ _ (pure ((#[]:Array Value)++vs.toArray).toList) Q E _;rw[show ((#[]:Array Value)++vs.toArray).toList=vs by simp];exact wpAny_pure (h _ fun b o e=>(Y1f _ _ (Y2e (Y0a e))).trans (Y02 _ e))
theorem ZbN {x:Value}{vs:List Value}{ns:List Int}{Q:Value->Shared->Prop}(hI:IntsAre vs ns)(h64:vs.length<64)
  (hcol:∀ (A:Around) (R:List Value->Shared->Prop),A.handled=none->(∀ vs ns' h' tk,IntsAre vs ns'->ns'=ns->(∀ b o,s.heap.get? b=some o->h'.get? b=some o)->R vs { s with heap:=h',toks:=tk })->wpAny (model prog w) A (collect x) R E s)
  (hh:A.handled=none)
  (h:∀ (h1 h2:Heap) (tk e:Nat) (out:Array Value) (ns':List Int),IntsAre out.toList ns'->ns'.Perm ns->ns'.Pairwise (·<=·)->(∀ b o,s.heap.get? b=some o->h1.get? b=some o)->h2.get? h1.objs.size=some (seqObj "list" out e)->
   (∀ b o,h1.get? b=some o->h2.get? b=some o)->Q (.ref h1.objs.size) { s with heap:=h2,toks:=tk }) :
  wpAny (model prog w) A (call (.builtin "sorted") [x]) Q E s:=by
 refine Calls.call_function_entry kind_sorted plain_sorted entry_sorted (args_sorted1 _) ?_;unfold Builtin.«sorted»;refine wpAny_bind (m:=checkCount "sorted" 1 1 _) (wpAny_pure ?_);refine wpAny_bind (hcol _ _ (by simp[hh]) fun vs ms h' tk hI' e hk=>?_);subst e;have hl:vs.length<64:=by rw[hI'.length,<-hI.length];exact h64
 refine wpAny_bind (wpAny_newList ?_);refine wpAny_bind (wpAny_holding (wpAny_call_entry slot_list_sort ⟨_,Y06 _ rfl,rfl⟩ entry_list_sort (list_sort_tree (Y06 _ rfl) hI' hl fun out ns' a1 a2 a3=>⟨_,rfl,?_⟩) (args_list_sort _)));obtain⟨e,he⟩:=sortedHeap_at (out:=out) (n:=0) (show (h'.push (seqObj "list" vs.toArray 0)).get? h'.objs.size=some (seqObj "list" vs.toArray 0) from Y06 _ rfl);have old:∀ b o,h'.get? b=some o->(sortedHeap (h'.push (seqObj "list" vs.toArray 0)) h'.objs.size vs out).get? b=some o:=fun b o q1=>by
  have q2:=Y0a q1;rw[sortedHeap_old (Y0j q2) (by rw[Y19];exact Y1b q2)];exact Y02 _ q1
 exact wpAny_pure ⟨_,rfl,h _ _ _ _ out ns' a1 a2 a3 hk he old⟩
end
section
variable {X:Cx}{pins:List (Addr×Obj)}{σ:St}{H:Hp}{s:Shared}
theorem Inv.turnLaid {fp:List Addr}{T:Addr}{o:HO}{h':Heap}{t':Nat}(I:Inv X pins σ H s)(hf:∀ b∈fp,Yo X pins H b)(hT:s.heap.objs.size<=T)
  (k:∀ b ob,b∉fp->s.heap.get? b=some ob->h'.get? b=some ob) (new:Zi X.prog X.w (upd H T o) h' T o):Inv X pins σ (upd H T o) { s with heap:=h',toks:=t' }:=by
 have hn:H T=none:=I.hok.fresh hT;have neT:∀ b ob,s.heap.get? b=some ob->b≠T:=fun b ob e=>Y0j (Y0i (Y0a e) hT);have nfp:∀ b u,H b=some u->b∉fp:=fun b u e hb=>by rw[(hf b hb).1]at e;cases e
 refine I.step (g':=s.gens) (d':=s.drawn) (ch:=fp) (fun b hb=>⟨(hf b hb).2.2.2.1,(hf b hb).2.1,(hf b hb).2.2.2.2.1,(hf b hb).2.2.2.2.2⟩) (fun b ob _ _ hc e _=>k b ob hc e) (fun b ob _ _ hc e _=>⟨ob.slots,k b ob hc e⟩)
  (fun b ob _ e n=>by rw[ZZ (neT b ob e)];exact n) (fun b ob hc e=>⟨ob,k b ob hc e⟩) (fun b xs e=>by rw[ZZ (Zv e hn)];exact e) (fun b ob u e=>by rw[ZZ (Zv e hn)];exact e)
  (fun b ps e=>⟨#[],by rw[ZZ (Zv e hn),e];simp⟩) (fun m hm=>?_) (fun b u e=>?_) I.bare
 ·obtain⟨ob,es,ep,ho,r⟩:=hm;exact⟨ob,es,ep,k _ ob (fun hb=>(hf _ hb).2.1 rfl) ho,r⟩
 ·by_cases hb:b=T
  ·subst hb;rw[Z2]at e;cases e;exact new
  ·rw[ZZ hb]at e;refine (I.hok b u e).stay (fun c v hc q=>k c v ?_ q) (fun c q=>by rw[ZZ (Zv q hn)];exact q) fun c xs q=>by rw[ZZ (Zv q hn)];exact q
   rcases hc with z|z
   ·rw[z];exact nfp b u e
   ·exact nfp c _ z
theorem Inv.turnedL {fp:List Addr}{h':Heap}{t':Nat}(I:Inv X pins σ H s)(hf:∀ b∈fp,Yo X pins H b)(k:∀ b ob,b∉fp->s.heap.get? b=some ob->h'.get? b=some ob):Inv X pins σ H { s with heap:=h',toks:=t' }:=by
 have nfp:∀ b u,H b=some u->b∉fp:=fun b u e hb=>by rw[(hf b hb).1]at e;cases e
 refine I.step (g':=s.gens) (d':=s.drawn) (ch:=fp) (fun b hb=>⟨(hf b hb).2.2.2.1,(hf b hb).2.1,(hf b hb).2.2.2.2.1,(hf b hb).2.2.2.2.2⟩) (fun b ob _ _ hc e _=>k b ob hc e) (fun b ob _ _ hc e _=>⟨ob.slots,k b ob hc e⟩)
  (fun _ _ _ _ n=>n) (fun b ob hc e=>⟨ob,k b ob hc e⟩) (fun _ _ e=>e) (fun _ _ _ e=>e) (fun b ps e=>⟨#[],by rw[e];simp⟩) (fun m hm=>?_) (fun b u e=>?_) I.bare
 ·obtain⟨ob,es,ep,ho,r⟩:=hm;exact⟨ob,es,ep,k _ ob (fun hb=>(hf _ hb).2.1 rfl) ho,r⟩
 ·refine (I.hok b u e).stay (fun c v hc q=>k c v ?_ q) (fun _ q=>q) fun _ _ q=>q;rcases hc with z|z
  ·rw[z];exact nfp b u e
  ·exact nfp c _ z
end
noncomputable def Yq (T:Addr)(xs:List V):HO:=.ext fun h=>xs.length<=sizeLine/\∃ its:List Value,ZT xs its/\IsTup h T its.toArray
theorem ZaV {P:Program}{w:World}{H:Hp}{h:Heap}{T:Addr}{xs:List V}(q:xs.length<=sizeLine/\∃ its:List Value,ZT xs its/\IsTup h T its.toArray):Zi P w H h T (Yq T xs):=by
 obtain⟨z,its,r,o,e,c⟩:=id q;exact⟨q,⟨o,e⟩,fun h1 h2 ⟨z',its',r',o',e',c'⟩ k=>⟨z',its',r',o',k _ e',c'⟩⟩
noncomputable def Zjm (n:Nat)(t:TGs):TG:=fun v σ H Q=>∃ a xs,v=.ref a/\H a=some (Yq a xs)/\xs.length=n/\t xs σ H Q
theorem Uy {es:List Expr}{k:Nat}{t:TGs}{n:Nat}{pos:Pos}(hc:X.calm=true)(h:PGs X es t)
  (hn:(assignEach es X.env).length=n:=by rfl) (hst:(assignEach es X.env).findIdx? (·.1)=none:=by rfl):PG X (.Tuple es k pos) (Zjm n t):=by
 intro pins s σ H v u Q I r hw;obtain⟨a,xs,e1,hq,hl,hw⟩:=hw;subst e1;cases r;obtain⟨⟨hz,its,rv,ht⟩,_⟩:=I.hok a _ hq;refine assign_Tuple_tuple (I.ok.hd hc) ht (by simp[hn,<-hl,rv.length]) hst fun h' hx=>?_;have I1:Inv X pins σ H { s with heap:=h' }:=I.kept (t':=s.toks) fun b o e=>hx b o (Y0j (Y0a e)) e;exact h pins _ σ H xs _ Q I1 (by simpa using rv) hw
def U9 (sq:Hp->List V->Prop):It:=
 ⟨fun i H=>∃ xs x,sq H xs/\xs[i]?=some x,fun i H x H'=>∃ T y,H T=none/\x=.ref T/\(∀ xs,sq H xs->xs[i]?=some y)/\H'=upd H T (Yq T [.int (i:Int),y]),fun i H=>∃ xs,sq H xs/\xs.length=i⟩
theorem SI {h:Heap}{a b:Addr}{o u:Obj}(h1:h.get? a=some o)(h2:h.get? b=some u)(d:o.cls≠u.cls):a≠b:=by
 intro e;subst e;rw[h1]at h2;cases h2;exact d rfl
theorem Z7t {P:Program}{w:World}{K:Y00}{elts:List Expr}{k:Nat}{pos:Pos}(sq:Hp->List V->Prop)(isq:Heap->Array Value->Prop)(isit:Nat->Heap->Prop)(e it:Addr)
  (obj:∀ i h,isit i h->∃ o,h.get? it=some o/\∀ v,o.data≠.cell v) (keep:∀ i h h',isit i h->(∀ o,h.get? it=some o->h'.get? it=some o)->isit i h')
  (rd:∀ (X:Cx) (pins:List (Addr×Obj)) (σ:St) (H:Hp) (s:Shared) (xs:List V),X.K=K->Inv X pins σ H s->sq H xs->(∃ its:List Value,ZT xs its/\isq s.heap its.toArray)/\∀ ys,sq H ys->ys=xs)
  (W:∀ (A:Around) (items:Array Value) (h:Heap) (i:Nat),A.handled=none->isq h items->isit i h->(∃ old,IsEnum h e it i old)->∃ fp Mid,WalksT P w A e fp [e,it] items.size (fun i vals=>∃ t x,items[i]?=some x/\vals=#[.int (i:Int) t,x])
   (fun i h=>(∃ old,IsEnum h e it i old)/\isit i h/\isq h items) Mid) :
  WO P w K (.Tuple elts k pos) (U9 sq) [e,it] e (fun i h=>(∃ old,IsEnum h e it i old)/\isit i h) where
 mem:=by simp
 obj:=fun i h st b hb=>by
  obtain⟨⟨old,he⟩,q⟩:=st;rcases Y0k.mp hb with rfl|hb
  ·exact⟨_,he,fun v z=>nomatch z⟩
  ·rw[Y0c.mp hb];exact obj i h q
 keep:=fun i h h' st kp=>⟨let ⟨old,he⟩:=st.1;⟨old,kp e (by simp) _ he⟩,keep i h h' st.2 fun o q=>kp it (by simp) o q⟩
 item:=by
  intro X hP hw hK hc i pins s σ H E I hf st hg;subst hP hw;obtain⟨xs,x,hq,hx⟩:=hg;obtain⟨⟨its,rv,hL⟩,inj⟩:=rd X pins σ H s xs hK I hq;obtain⟨old,he⟩:=id st.1;obtain⟨oi,hoi,_⟩:=obj _ _ st.2;have hlt:i<its.toArray.size:=by
   have:=(Y07.mp hx).1;rw[rv.length]at this;simpa using this
  obtain⟨fp,Mid,W⟩:=W X.A its.toArray s.heap i (I.ok.hd hc) hL st.2 st.1;refine W.item i s _ E hlt ⟨st.1,st.2,hL⟩ fun T vals h' tk hPt hT htup hMid hk=>⟨.ref T,rfl,?_⟩;refine W.go elts k pos i T _ _ E hMid fun h'' hSt hk2=>?_;obtain⟨t,y',hy',rfl⟩:=hPt;obtain⟨u,hu,ry⟩:=rv.get hx;have e1:y'=u:=by
   have:its[i]?=some y':=by simpa using hy'
   rw[hu]at this;exact (Option.some.inj this).symm
  subst e1;have htup2:IsTup h'' T #[.int (i:Int) t,y']:=by
   obtain⟨o,q1,q2⟩:=htup;exact⟨o,hk2 T o (W.apart _ _ _ hMid) q1,q2⟩
  refine⟨.ref T,upd H T (Yq T [.int (i:Int),x]),?_,rfl,⟨T,x,I.hok.fresh hT,rfl,fun zs hzs=>by rw[inj zs hzs];exact hx,rfl⟩,⟨hSt.1,hSt.2.1⟩,fun b hb=>?_⟩
  ·exact I.turnLaid (s:=s) (h':=h'') (t':=tk) hf hT (fun b ob hb q=>hk2 b ob hb (hk b ob hb q)) (ZaV ⟨by show 2<=sizeLine;decide,[.int (i:Int) t,y'],.cons ⟨t,rfl⟩ (.cons ry .nil),htup2⟩)
  ·have hbT:b≠T:=fun z=>by
    have:b<s.heap.objs.size:=by
     rcases Y0k.mp hb with rfl|hb
     ·exact Y0a he
     ·rw[Y0c.mp hb];exact Y0a hoi
    exact absurd (Y0i this hT) (by rw[z];exact Y1o _)
   rw[ZZ hbT];exact (hf b hb).1
 done:=by
  intro X hP hw hK hc i pins s σ H E I hf st hs;subst hP hw;obtain⟨xs,hq,hle⟩:=hs;obtain⟨⟨its,rv,hL⟩,inj⟩:=rd X pins σ H s xs hK I hq;obtain⟨fp,Mid,W⟩:=W X.A its.toArray s.heap i (I.ok.hd hc) hL st.2 st.1;have hi:i=its.toArray.size:=by rw[<-hle,rv.length];simp
  refine W.done s _ E (by rw[<-hi];exact⟨st.1,st.2,hL⟩) fun h' tk hk=>⟨rfl,?_⟩;exact I.turnedL hf hk
 self:=fun A i s Q E st h=>by obtain⟨⟨old,he⟩,_⟩:=st;exact wpAny_pyIter_enum he h
section
variable {X:Cx}{elts:List Expr}{k:Nat}{tpos:Pos}
noncomputable def Zhx (K:Y00)(ta:TA):TI:=fun σ H R=>ta σ H fun vs H1=>∃ a,vs=[.ref a]/\(∃ xs,SqL K H1 a xs)/\R (U9 fun H xs=>SqL K H a xs) H1
noncomputable def Zha (K:Y00)(ta:TA):TI:=fun σ H R=>ta σ H fun vs H1=>∃ a,vs=[.ref a]/\(∃ xs,SqT K H1 a xs)/\R (U9 fun H xs=>SqT K H a xs) H1
theorem Z6V:bootBuiltins "enumerate"=some (.type "enumerate"):=by decide +kernel
theorem Z8L {l:Expr}{ta:TA}{p pos:Pos}(hg:Gl X "enumerate")(hm:X.mg "enumerate"=none)(ha:PA X [l] ta)(hs:starEach [l] X.env=[(false,eval l X.env)]:=by rfl) :
  PI X (.Tuple elts k tpos) (.Call (.Name "enumerate" p) [l] [] pos) (Zhx X.K ta):=by
 intro pins s σ H R I h;refine Call_ (Wo I hg hm Z6V (PyProof.Rows.callWith_type1 (thn (ha pos pins s σ H _ I h) fun us s1 ⟨vs,H1,I1,r1,q1⟩=>?_) hs rfl));obtain⟨a,rfl,⟨xs,hq⟩,q⟩:=q1;obtain⟨u,rfl,ru⟩:=YE r1;obtain rfl:u=Value.ref a:=ru;obtain⟨its,rv,p,hz⟩:=I1.list hq;have ha:a<s1.heap.objs.size:=by obtain⟨o,ho,_⟩:=p.isList;exact Y0a ho
 refine call_enumerate_list p.isList fun h' he hit hsz hk=>?_;refine wpAny_pyIter_enum he ?_;have I2:Inv X pins σ H1 { s1 with heap:=h' }:=I1.kept (t':=s1.toks) hk;refine⟨s1.heap.objs.size+1,[s1.heap.objs.size+1,s1.heap.objs.size],_,_,H1,rfl,I2,Z7t (fun H xs=>SqL X.K H a xs) (fun h its=>h.IsList a its) (fun i h=>h.IsListIter s1.heap.objs.size a i) (s1.heap.objs.size+1) s1.heap.objs.size ?_ ?_ ?_ ?_,⟨⟨_,he⟩,hit⟩,fun b hb=>?_,q⟩
 ·rintro i h ⟨o,q1,q2,q3⟩;exact⟨o,q1,fun v z=>by rw[q3]at z;cases z⟩
 ·intro i h h' st kp;exact st.at kp
 ·intro X' pins' σ' H' s' ys hK I' hq';rw[<-hK]at hq';obtain⟨its',rv',p',_⟩:=I'.list hq';exact⟨⟨its',rv',p'.isList⟩,fun zs hz=>I'.list_inj (by rw[hK];exact hz) hq'⟩
 ·intro A items h i hh hL hI hE;obtain⟨old,hE⟩:=hE;obtain⟨ol,hol,hcl,_⟩:=id hL;obtain⟨oi,hoi,hci,_⟩:=id hI;exact⟨_,_,WalksT.enumerate hh _ _ a (Y3n _) (SI hol hE (by rw[hcl];show Value.type "list"≠Value.type "enumerate";decide)) (SI hol hoi (by rw[hcl,hci];decide)) items⟩
 ·rcases Y0k.mp hb with rfl|hb
  ·exact I1.fpOk (Y2i _) (I1.hok.fresh (Y2i _))
  ·rw[Y0c.mp hb];exact I1.fpOk (Y04 _) (I1.hok.fresh (Y04 _))
theorem Z91 {l:Expr}{ta:TA}{p pos:Pos}(hg:Gl X "enumerate")(hm:X.mg "enumerate"=none)(ha:PA X [l] ta)(hs:starEach [l] X.env=[(false,eval l X.env)]:=by rfl) :
  PI X (.Tuple elts k tpos) (.Call (.Name "enumerate" p) [l] [] pos) (Zha X.K ta):=by
 intro pins s σ H R I h;refine Call_ (Wo I hg hm Z6V (PyProof.Rows.callWith_type1 (thn (ha pos pins s σ H _ I h) fun us s1 ⟨vs,H1,I1,r1,q1⟩=>?_) hs rfl));obtain⟨a,rfl,⟨xs,hq⟩,q⟩:=q1;obtain⟨u,rfl,ru⟩:=YE r1;obtain rfl:u=Value.ref a:=ru;obtain⟨its,rv,p,hz⟩:=I1.tuple hq;refine Z38 (show s1.heap.IsTuple a its.toArray from p) fun h' he hit hsz hk=>?_;refine wpAny_pyIter_enum he ?_;have I2:Inv X pins σ H1 { s1 with heap:=h' }:=I1.kept (t':=s1.toks) hk;refine⟨s1.heap.objs.size+1,[s1.heap.objs.size+1,s1.heap.objs.size],_,_,H1,rfl,I2,Z7t (fun H xs=>SqT X.K H a xs) (fun h its=>h.IsTuple a its) (fun i h=>h.IsTupleIter s1.heap.objs.size a i) (s1.heap.objs.size+1) s1.heap.objs.size ?_ ?_ ?_ ?_,⟨⟨_,he⟩,hit⟩,fun b hb=>?_,q⟩
 ·rintro i h ⟨o,q1,q2,q3⟩;exact⟨o,q1,fun v z=>by rw[q3]at z;cases z⟩
 ·rintro i h h' ⟨o,q1,q2⟩ kp;exact⟨o,kp o q1,q2⟩
 ·intro X' pins' σ' H' s' ys hK I' hq';rw[<-hK]at hq';obtain⟨its',rv',p',_⟩:=I'.tuple hq';exact⟨⟨its',rv',p'⟩,fun zs hz=>I'.tuple_inj (by rw[hK];exact hz) hq'⟩
 ·intro A items h i hh hL hI hE;obtain⟨old,hE⟩:=hE;obtain⟨ol,hol,hcl,_⟩:=id hL;obtain⟨oi,hoi,hci,_⟩:=id hI;have hne:a≠s1.heap.objs.size:=SI hol hoi (by rw[hcl,hci];decide);have hne2:a≠s1.heap.objs.size+1:=SI hol hE (by rw[hcl];show Value.type "tuple"≠Value.type "enumerate";decide);exact⟨_,_,WalksT.enumerateD (Z7H (A:=A.in1) hh s1.heap.objs.size a hne items) (s1.heap.objs.size+1) (Y3n _) (fun hm=>(Y0k.mp hm).elim (Y3n _) fun hm=>hne2 (Y0c.mp hm).symm) (by simp)⟩
 ·rcases Y0k.mp hb with rfl|hb
  ·exact I1.fpOk (Y2i _) (I1.hok.fresh (Y2i _))
  ·rw[Y0c.mp hb];exact I1.fpOk (Y04 _) (I1.hok.fresh (Y04 _))
end
noncomputable def Itd (a:Addr)(kvs:List (Key×V))(o:Obj):It:=
 ⟨fun i H=>H a=some (.frz o (.dK kvs))/\∃ kv,kvs[i]?=some kv,fun i H x H'=>∃ T k v,H T=none/\x=.ref T/\kvs[i]?=some (k,v)/\H'=upd H T (.tup [kV k,v]),fun i H=>H a=some (.frz o (.dK kvs))/\kvs.length<=i⟩
theorem KV.get {kvs:List (Key×V)}{vs:List (Key×Value)}(r:KV kvs vs):∀ {i:Nat} {k:Key} {v:V},kvs[i]?=some (k,v)->∃ u,vs[i]?=some (k,u)/\ZI v u:=by
 unfold KV at r
 induction r with
 | nil=>intro i k v e;simp at e
 | @cons p q ps qs h t ih=>
  intro i k v e;cases i with
  | zero=>
   simp at e;subst e;obtain⟨q1,q2⟩:=q;obtain⟨h1,h2⟩:=h;have h1:k=q1:=h1;subst h1;exact⟨q2,rfl,h2⟩
  | succ i=>simpa using ih (by simpa using e)
theorem Z5k {P:Program}{w:World}{k:Key}{u:Value}(h:(Y9 P w).is k u=true):ZI (kV k) u:=by
 rcases XG (show Wg k u=true from h) with ⟨i,t,rfl,rfl⟩|⟨x,t,rfl,rfl⟩
 ·exact⟨t,rfl⟩
 ·exact⟨t,rfl⟩
theorem ZaD {X:Cx}{pins:List (Addr×Obj)}{σ:St}{H:Hp}{s:Shared}{a:Addr}{o:Obj}{es:Array DictEntry}{ep:Nat}{kvs:List (Key×V)}(I:Inv X pins σ H s)(h:H a=some (.frz o (.dK kvs)))(hd:o.data=.dict es ep) :
  ∃ vs,KV kvs vs/\s.heap.DictAt (Y9 X.prog X.w) a vs ep/\s.heap.get? a=some o:=by
 obtain⟨h1,z,hs,vs,rv,o',es',ep',e,r⟩:=(show Zi X.prog X.w H s.heap a (.frz o (.dK kvs)) from I.hok a _ h);rw[h1]at e;cases e;obtain⟨r1,r2,r3⟩:=r;rw[hd]at r2;cases r2;exact⟨vs,rv,⟨o,es,h1,r1,hd,r3⟩,h1⟩
theorem Z9t {P:Program}{w:World}{K:Y00}{elts:List Expr}{k:Nat}{pos:Pos}(a it:Addr)(o:Obj)(es:Array DictEntry)(ep:Nat)(kvs:List (Key×V))(hd:o.data=.dict es ep) :
  WO P w K (.Tuple elts k pos) (Itd a kvs o) [it] it (fun i h=>∃ ok ov,IsItemIter h it a i kvs.length ep ok ov) where
 mem:=by simp
 obj:=fun i h st b hb=>by
  obtain⟨ok,ov,he⟩:=st;rw[Y0c.mp hb];exact⟨_,he,fun v z=>nomatch z⟩
 keep:=fun i h h' ⟨ok,ov,he⟩ kp=>⟨ok,ov,kp it (by simp) _ he⟩
 item:=by
  intro X hP hw hK hc i pins s σ H E I hf st hg;subst hP hw;obtain⟨hz,⟨kk,v⟩,hx⟩:=hg;obtain⟨vs,rv,dd,ha⟩:=ZaD I hz hd;obtain⟨ok,ov,hit⟩:=st;obtain⟨u,hu,ru⟩:=rv.get hx;have hl:kvs.length=vs.length:=rv.length;rw[hl]at hit;refine wpAny_pyNext_items_item hit dd hu fun key h' hkey hout htup hsz hk=>⟨.ref s.heap.objs.size,rfl,?_⟩;refine wpAny_letOwnedTupleGo_items hout fun h'' hit'' hs''=>?_;have hitlt:it<s.heap.objs.size:=Y0a hit;have hne:s.heap.objs.size≠it:=Y2e hitlt;refine⟨.ref s.heap.objs.size,upd H s.heap.objs.size (.tup [kV kk,v]),?_,rfl,⟨_,kk,v,I.hok.fresh (Y04 _),rfl,hx,rfl⟩,⟨key,u,by rw[hl];exact hit''⟩,fun b hb=>?_⟩
  ·refine I.turnLaid (s:=s) (h':=h'') (t':=s.toks) hf (Y04 _) (fun b ob hb q=>?_) ⟨⟨by show 2<=sizeLine;decide,_,(hs''.2 _ hne).trans htup,rfl⟩,[key,u],.cons (Z5k hkey) (.cons ru .nil),⟨_,(hs''.2 _ hne).trans htup,rfl,_,rfl⟩⟩;have hbi:b≠it:=fun z=>hb (by simp[z]);exact (hs''.2 b hbi).trans (hk b ob hbi q)
  ·rw[Y0c.mp hb,ZZ (Ne.symm hne)];exact (hf it (by simp)).1
 done:=by
  intro X hP hw hK hc i pins s σ H E I hf st hs;subst hP hw;obtain⟨hz,hle⟩:=hs;obtain⟨vs,rv,dd,ha⟩:=ZaD I hz hd;obtain⟨ok,ov,hit⟩:=st;have hl:kvs.length=vs.length:=rv.length;rw[hl]at hit;refine wpAny_pyNext_items_end (I.ok.hd hc) hit dd (Y29 (by lia)) fun h' hk=>⟨rfl,?_⟩;exact I.turnedL (t':=s.toks) hf fun b ob hb q=>hk b ob (fun z=>hb (by simp[z])) q
 self:=fun A i s Q E ⟨ok,ov,he⟩ h=>PySem.W.kcp_self he h
section
variable {X:Cx}{elts:List Expr}{k:Nat}{tpos:Pos}
theorem Inv.freeze {pins:List (Addr×Obj)}{σ:St}{H:Hp}{s:Shared}{a:Addr}{kvs:List (Key×V)}(I:Inv X pins σ H s)(h:H a=some (.dK kvs)) :
  ∃ o es ep,o.data=.dict es ep/\Inv X pins σ (upd H a (.frz o (.dK kvs))) s:=by
 obtain⟨z,hs,vs,rv,o,es,ep,e,r1,r2,r3⟩:=(show Zi X.prog X.w H s.heap a (.dK kvs) from I.hok a _ h);refine⟨o,es,ep,r2,?_⟩;have:=I.write (x:=a) (e:=a) (o:=.frz o (.dK kvs)) (h':=s.heap) (t':=s.toks) (by rw[h];exact True.intro) (.inl rfl) (fun _ _ _ q=>q) ⟨o,e⟩ ⟨e,z,hs,vs,rv,o,es,ep,e,r1,r2,r3⟩;exact this
noncomputable def Zhg (tl:TE):TI:=fun σ H R=>tl σ H fun x H1=>∃ a kvs,x=.ref a/\Rd H1 a (.dK kvs)/\∀ o H2,H2 a=some (.frz o (.dK kvs))->(∀ b,b≠a->H2 b=H1 b)->R (Itd a kvs o) H2
theorem Zdu {d:Expr}{tl:TE}{apos cpos:Pos}(hl:PE X d tl)(hb:attributeBase d "items" X.env (eval d X.env)=eval d X.env:=by rfl)(hline:(apos.endLine==cpos.line)=true:=by rfl) :
  PI X (.Tuple elts k tpos) (.Call (.Attribute d "items" apos) [] [] cpos) (Zhg tl):=by
 intro pins s σ H R I h;have fin:∀ {s1:Shared} {H1:Hp} {a:Addr} {kvs:List (Key×V)} {o:Obj} {es:Array DictEntry} {ep:Nat},Inv X pins σ H1 s1->H1 a=some (.frz o (.dK kvs))->o.data=.dict es ep->R (Itd a kvs o) H1->
   s1.TypeIs (.ref a) "dict"/\(∀ b,Value.ref a=.ref b->∃ ob,s1.heap.get? b=some ob/\ob.dict=none)/\
   wpAny (model X.prog X.w) X.A (callWith cpos (.builtin "dict.items") [.ref a] [] []) (fun v s1=>wpAny (model X.prog X.w) X.A (pyIter v) (PIE X pins σ (.Tuple elts k tpos) R) X.xe s1) X.xe s1:=by
  intro s1 H1 a kvs o es ep I1 hz hd q;obtain⟨vs,rv,dd,ha⟩:=ZaD I1 hz hd;have hS:(a==sysModules)=false:=by
   obtain⟨_,_,hs,_⟩:=(show Zi X.prog X.w H1 s1.heap a (.frz o (.dK kvs)) from I1.hok a _ hz);exact hs
  have dd':=dd.dictOf;refine⟨dd'.typeIs,dd'.mapOf.noDict,?_⟩;refine method_meetsIn F.slot_dict_items F.entry_dict_items rfl (PySem.evalArgs_none ⟨rfl,dd'.typeIs,F.args_dict_items_1 _,_,meets_dict_items (Y9 X.prog X.w) a hS,⟨vs,dd'⟩,?_⟩);refine wpAny_pyIter_items (knd:=Y9 X.prog X.w) (kvs:=vs) (ep:=ep) ⟨_,Y06 _ rfl,rfl,rfl⟩ (dd.push _) ?_;have I2:=(I1.kept (h':=s1.heap.push { cls:=.type "dict_items",data:=.fields #[.ref a] }) (t':=s1.toks) fun b o e=>Y02 _ e);have I3:=(I2.kept (h':=(s1.heap.push { cls:=.type "dict_items",data:=.fields #[.ref a] }).push { cls:=.type "dict_itemiterator",data:=.fields #[.none,.bool false,.ref a,.int 0 0,.int vs.length 0,.int ep 0,.none,.none] }) (t':=s1.toks) fun b o e=>Y02 _ e);refine⟨_,[_],_,_,H1,rfl,I3,Z9t a _ o es ep kvs hd,⟨.none,.none,?_⟩,fun b hb=>?_,q⟩
  ·have hlen:kvs.length=vs.length:=rv.length;rw[hlen];exact Y06 _ rfl
  ·rw[Y0c.mp hb];exact I2.fpOk (Y04 _) (I2.hok.fresh (Y04 _))
 refine wpAny_Call_method (T:="dict") (id:="dict.items") hb rfl hline F.plainAttrs_dict F.slot_dict_items F.type_dict_items (thn (hl pins s σ H _ I h) fun v s1 ⟨x,H1,I1,r1,a,kvs,e,rd,q⟩=>?_);subst e;obtain rfl:v=Value.ref a:=r1;rcases rd with hz|⟨o,hz⟩
 ·obtain⟨o,es,ep,hd,I2⟩:=I1.freeze hz;exact fin I2 Z2 hd (q o _ Z2 fun b hb=>ZZ hb)
 ·obtain⟨h1,z,hs,vs,rv,o',es,ep,e,r1,r2,r3⟩:=(show Zi X.prog X.w H1 s1.heap a (.frz o (.dK kvs)) from I1.hok a _ hz);rw[h1]at e;cases e;exact fin I1 hz r2 (q o _ hz fun _ _=>rfl)
end
section
variable {X:Cx}
theorem U8 (hc:X.calm=true):YM X (.builtin "all") (fun xs H Q=>∃ (p:Addr) (bs:List Bool),xs=[.ref p]/\SqL X.K H p (bs.map V.bl)/\Q (.bl (bs.all id)) H):=by
 intro pins s σ H xs us Q I r h;obtain⟨p,bs,rfl,hq,q⟩:=h;obtain⟨u,rfl,ru⟩:=YE r;obtain rfl:u=Value.ref p:=ru;obtain⟨its,rv,pl,hz⟩:=I.list hq;have hL:=pl.isList;have hlt:p<s.heap.objs.size:=by obtain⟨o,ho,_⟩:=id hL;exact Y0a ho
 have hlen:its.length=bs.length:=by rw[<-rv.length];simp
 refine call_all_walkS (wpAny_pyIter_list hL ⟨s.heap.objs.size,_,_,_,its.toArray.size,_,_,fun i=>bs.getD i true,rfl,(Walks.list (A:=X.A.in1) (I.ok.hd hc) s.heap.objs.size p (Y0j hlt) its.toArray).toS,⟨⟨_,Y06 _ rfl,rfl,rfl⟩,hL.push _⟩,?_,fun s' hm=>?_⟩)
 ·intro i v s2 Q2 E2 hP hQ;have hv:its[i]?=some v:=by simpa using hP
  have hi:i<bs.length:=by rw[<-hlen];exact (Y07.mp hv).1
  have hb:(bs.map V.bl)[i]?=some (.bl bs[i]):=by simp[hi]
  obtain⟨u,hu,ru⟩:=rv.get hb;rw[hv]at hu;cases hu;obtain rfl:v=Value.bool bs[i]:=ru;have e:bs.getD i true=bs[i]:=by simp[Y0h,hi]
  simp only[e]at hQ;exact wpAny_truthy_bool hQ
 ·rw[Moved.eq_with hm];refine⟨.bl _,H,I.kept (h':=s'.heap) (t':=s'.toks) fun b o e=>hm.heap b o (fun z=>?_) (Y02 _ e),rfl,?_⟩
  ·exact absurd (Y0a e) (by rw[Y0c.mp z];exact Y1o _)
  ·have e:(Y03 its.toArray.size).all (fun i=>bs.getD i true)=bs.all id:=by
    have:its.toArray.size=bs.length:=by simpa using hlen
    rw[this];apply Y2j.mpr;simp only[Y2d,Y08,id];constructor
    ·intro h b hb;obtain⟨i,hi,rfl⟩:=Y1g.mp hb;have:=h i hi
     simpa [Y0h,hi] using this
    ·intro h i hi;have:=h bs[i] (Y15 hi)
     simpa [Y0h,hi] using this
   rw[e];exact q
theorem Z4P:YM X (.type "range") (fun xs H Q=>∃ j:Int,xs=[.int j]/\∀ r,H r=none->Q (.ref r) (upd H r (.rng 0 j))):=by
 intro pins s σ H xs us Q I r h;obtain⟨j,rfl,q⟩:=h;obtain⟨u,rfl,t,rfl⟩:=YE r;refine call_range_1 ⟨.ref s.heap.objs.size,_,I.laid (a:=s.heap.objs.size) (o:=.rng 0 j) (fun _ _ e=>Y02 _ e) (Y04 _) ⟨_,_,_,Y06 _ rfl⟩,rfl,q _ (I.hok.fresh (Y04 _))⟩
theorem Z3K (hc:X.calm=true):YM X (.type "list") (fun xs H Q=>∃ (r:Addr) (n:Nat),xs=[.ref r]/\H r=some (.rng 0 (n:Int))/\n<=1000/\∀ l,H l=none->Q (.ref l) (upd H l (.lst (nv (Y03 n))))):=by
 intro pins s σ H xs us Q I r h;obtain⟨a,n,rfl,ha,hn,q⟩:=h;obtain⟨u,rfl,ru⟩:=YE r;obtain rfl:u=Value.ref a:=ru;obtain⟨t,u',v',e⟩:=(show Zi X.prog X.w H s.heap a (.rng 0 (n:Int)) from I.hok a _ ha);refine call_list_range (n:=n) (I.ok.hd hc) (show IsRange s.heap a 0 (n:Int) 1 t u' v' from e) (small_one (by decide) (by decide) (by lia) (by lia)) (by rw[rangeSize_one];split<;>lia) (by lia) fun h' tk acc c hk hacc hI=>?_;refine⟨.ref s.heap.objs.size,_,I.laid (a:=s.heap.objs.size) (o:=.lst (nv (Y03 n))) (h':=h') (t':=tk) hk (Y04 _) ⟨?_,acc.toList,c,?_,by simpa using hacc⟩,rfl,q _ (I.hok.fresh (Y04 _))⟩
 ·rw[ZQ,Y0m];exact Y14 (Zj hn)
 ·obtain⟨hsz,hi⟩:=hI;have key:∀ (m:Nat) (l:List Value),l.length=m->(∀ (j:Nat) (v:Value),l[j]?=some v->∃ t,v=Value.int ((0:Int)+(j:Nat)*1) t)->ZT (nv (Y03 m)) l:=by
   intro m
   induction m with
   | zero=>intro l hl _;rw[Y1p.mp hl];exact .nil
   | succ m ih=>
    intro l hl hv;have hne:l≠[]:=(by intro e;rw[e]at hl;simp at hl);rw[<-Y2t hne,Y1i];have e1:nv (Y03 m++[m])=nv (Y03 m)++nv [m]:=(by simp[nv]);rw[e1];refine ZT.append (ih l.dropLast (by simp[hl]) fun j v hj=>?_) (.cons ?_ .nil)
    ·have hjl:j<l.dropLast.length:=(Y07.mp hj).1;refine hv j v ?_;rw[List.getElem?_dropLast]at hj
     split at hj
     ·exact hj
     ·cases hj
    ·obtain⟨t,e⟩:=hv m (l.getLast hne) (by rw[List.getLast_eq_getElem,<-Y01];congr 1;lia);exact⟨t,by rw[e];congr 1;lia⟩
  exact key n acc.toList (by simpa using hsz) fun j v hj=>hi j v (by simpa using hj)
def Zf5 (K:Y00)(H:Hp)(p:Addr)(r:List Nat):Prop:=SqL K H p (nv r)\/SqT K H p (nv r)\/∃ kvs,H p=some (.dK kvs)/\kvs.map (·.1)=r.map fun (n:Nat)=>Sum.inl (n:Int)
theorem Wz:∀ {r:List Nat} {us:List Value},ZT (nv r) us->IntsAre us (r.map fun (n:Nat)=>(n:Int)):=fun {r us} h=>Z9q (by rw[Y2b];exact h)
theorem Zew {ms:List Int}{r:List Nat}(p:ms.Perm (r.map fun (n:Nat)=>(n:Int)))(so:ms.Pairwise (·<=·)):∃ S:List Nat,ms=S.map (fun (n:Nat)=>(n:Int))/\S.Perm r/\S.Pairwise (·<=·):=by
 have hn:∀ m∈ms,0<=m:=fun m hm=>by
  obtain⟨n,_,rfl⟩:=Y0d.mp (p.mem_iff.mp hm);exact Int.natCast_nonneg n
 have e:ms=(ms.map Int.toNat).map fun (n:Nat)=>(n:Int):=by
  rw[Y2b]
  conv=>lhs;rw[<-Y4a ms]
  exact Y3w fun m hm=>by simp[Int.toNat_of_nonneg (hn m hm)]
 refine⟨ms.map Int.toNat,e,?_,?_⟩
 ·have:=p.map Int.toNat;rw[Y2b]at this;have e2:r.map (Int.toNat ∘ fun (n:Nat)=>(n:Int))=r:=by
   conv=>rhs;rw[<-Y4a r]
   exact Y3w fun m _=>by simp
  rw[e2]at this;exact this
 ·exact Y2l.mpr (so.imp_of_mem fun ha hb h=>by have:=hn _ ha;have:=hn _ hb;lia)
theorem Z7s {us:List Value}{S:List Nat}(h:IntsAre us (S.map fun (n:Nat)=>(n:Int))):ZT (nv S) us:=by
 have:=Z4G h;rw[Y2b]at this;exact this
def Zbf (K:Y00):List V->Hp->VK->Prop:=fun xs H Q=>∃ (p:Addr) (r:List Nat),xs=[.ref p]/\Zf5 K H p r/\r.length<64/\∀ l S,H l=none->S.Perm r->S.Pairwise (·<=·)->Q (.ref l) (upd H l (.lst (nv S)))
theorem U2 (hc:X.calm=true):YM X (.builtin "sorted") (Zbf X.K):=by
 intro pins s σ H xs us Q I rr h;obtain⟨p,r,rfl,src,h64,q⟩:=h;obtain⟨u,rfl,ru⟩:=YE rr;obtain rfl:u=Value.ref p:=ru;have hh:=I.ok.hd hc;have fin:∀ (vs:List Value),IntsAre vs (r.map fun (n:Nat)=>(n:Int))->
   (∀ (A:Around) (R:List Value->Shared->Prop),A.handled=none->(∀ vs ns' h' tk,IntsAre vs ns'->ns'=(r.map fun (n:Nat)=>(n:Int))->(∀ b o,s.heap.get? b=some o->h'.get? b=some o)->R vs { s with heap:=h',toks:=tk })->wpAny (model X.prog X.w) A (collect (.ref p)) R X.xe s)->
   wpAny (model X.prog X.w) X.A (call (.builtin "sorted") [.ref p]) (EP X pins σ Q) X.xe s:=by
  intro vs hI hcol;refine ZbN hI (by rw[hI.length,Y05];exact h64) hcol hh fun h1 h2 tk e out ns' a1 a2 a3 hk ho hk2=>?_;obtain⟨S,rfl,pS,sS⟩:=Zew a2 a3;have I1:Inv X pins σ H { s with heap:=h1,toks:=tk }:=I.kept hk;have hlen:S.length<64:=by rw[pS.length_eq];exact h64
  refine⟨.ref h1.objs.size,_,I1.laid (a:=h1.objs.size) (o:=.lst (nv S)) (h':=h2) (t':=tk) hk2 (Y04 _) ⟨?_,out.toList,e,Z7s a1,by simpa using ho⟩,rfl,q _ S (I1.hok.fresh (Y04 _)) pS sS⟩;rw[ZQ];exact Y14 (Zj (by lia))
 rcases src with hq|hq|⟨kvs,hd,hkeys⟩
 ·obtain⟨its,rv,pl,hz⟩:=I.list hq;refine fin its (Wz rv) fun A R hA hR=>?_;refine collect_list pl.isList (hR its _ _ s.toks (Wz rv) rfl fun b o e=>?_) (by rw[<-rv.length];exact hz);exact (Y1f _ _ (Y2e (Y0a e))).trans (Y02 _ e)
 ·obtain⟨its,rv,pl,hz⟩:=I.tuple hq;refine fin its (Wz rv) fun A R hA hR=>?_;exact Z7X (show s.heap.IsTuple p its.toArray from pl) (by rw[<-rv.length];exact hz) fun h' hk=>hR its _ _ s.toks (Wz rv) rfl hk
 ·obtain⟨z,hs,vs,rv,dd⟩:=ZeQ I.hok hd;obtain⟨ep,da⟩:=dd.dictAt;have hks:vs.map (·.1)=r.map fun (n:Nat)=>Sum.inl (n:Int):=by rw[<-rv.keys];exact hkeys
  have key:∀ (l:List Value),l.length=vs.length->(∀ (j:Nat) (v:Value),l[j]?=some v->∃ k x,vs[j]?=some (k,x)/\(Y9 X.prog X.w).is k v=true)->IntsAre l (r.map fun (n:Nat)=>(n:Int)):=by
   intro l hl hj;refine Wz ?_;have hlr:l.length=r.length:=by rw[hl];simpa using congrArg Y1k hks
   have:∀ (r':List Nat) (l':List Value),l'.length=r'.length->(∀ (j:Nat) (v:Value),l'[j]?=some v->∃ n,r'[j]?=some n/\∃ t,v=Value.int (n:Int) t)->ZT (nv r') l':=by
    intro r'
    induction r' with
    | nil=>intro l' hl _;rw[Y1p.mp hl];exact .nil
    | cons n r' ih=>
     intro l' hl hj;cases l' with
     | nil=>simp at hl
     | cons v l'=>
      obtain⟨m,em,t,ev⟩:=hj 0 v rfl;simp at em;subst em;exact .cons ⟨t,ev⟩ (ih l' (by simpa using hl) fun j v hv=>by simpa using hj (j+1) v (by simpa using hv))
   refine this r l hlr fun j v hv=>?_;obtain⟨k,x,e1,e2⟩:=hj j v hv;have e3:(r.map fun (n:Nat)=>(Sum.inl (n:Int):Key))[j]?=some k:=(by rw[<-hks,Y0l,e1];rfl);rw[Y0l]at e3;cases en:r[j]? with
   | none=>rw[en]at e3;cases e3
   | some n=>
    rw[en]at e3;have e4:(Sum.inl (n:Int):Key)=k:=Option.some.inj e3;subst e4;obtain⟨t,et⟩:=(show ∃ t,v=Value.int (n:Int) t from Z5k e2);exact⟨n,rfl,t,et⟩
  obtain⟨l0,hl0,hj0⟩:∃ l:List Value,l.length=vs.length/\∀ (j:Nat) (v:Value),l[j]?=some v->∃ k x,vs[j]?=some (k,x)/\(Y9 X.prog X.w).is k v=true:=by
   refine⟨vs.map fun kv=>match kv.1 with|Sum.inl i=>Value.int i 0|Sum.inr x=>Value.str x 0,by simp,fun j v hv=>?_⟩;rw[Y0l]at hv;cases e:vs[j]? with
   | none=>rw[e]at hv;cases hv
   | some kv=>
    rw[e]at hv;obtain⟨k,x⟩:=kv;refine⟨k,x,rfl,?_⟩;cases k with
    | inl i=>cases hv;exact Z5l _ _ i 0
    | inr x=>cases hv;exact Z5c _ _ x 0
  refine fin l0 (key l0 hl0 hj0) fun A R hA hR=>?_;refine PySem.W.kdu_collect (PySem.W.kdl_dict (knd:=Y9 X.prog X.w) (kvs:=vs) (ep:=ep) hs) hA da (by rw[<-rv.length];exact z) fun h' tk acc hk hacc=>?_;exact hR acc.toList _ h' tk (key acc.toList (by simpa using hacc.1) fun j v hv=>hacc.2 j v (by simpa using hv)) rfl hk
noncomputable def Vr (r:List Nat):Nat:=(firstMet (fun i=>(r.map fun (n:Nat)=>(n:Int)).getD i 0) r.length).length
def rSet (K:Y00):List V->Hp->VK->Prop:=fun xs H Q=>∃ (p:Addr) (r:List Nat),xs=[.ref p]/\(SqL K H p (nv r)\/SqT K H p (nv r))/\r.length<=1000/\∀ d S,H d=none->Q (.ref d) (upd H d (.set S (Vr r)))
theorem ZcW (hc:X.calm=true):YM X (.type "set") (rSet X.K):=by
 intro pins s σ H xs us Q I rr h;obtain⟨p,r,rfl,src,hl,q⟩:=h;obtain⟨u,rfl,ru⟩:=YE rr;obtain rfl:u=Value.ref p:=ru;have hh:=I.ok.hd hc;have fin:∀ {its:List Value} {h':Heap} {tk:Nat},its.length=r.length->h'.SetOf (intKind X.prog X.w) s.heap.objs.size (fun k'=>(firstMet (fun i=>(r.map fun (n:Nat)=>(n:Int)).getD i 0) its.toArray.size).any (· == k')) (firstMet (fun i=>(r.map fun (n:Nat)=>(n:Int)).getD i 0) its.toArray.size).length->
   (∀ b o,b<s.heap.objs.size->s.heap.get? b=some o->h'.get? b=some o)->EP X pins σ Q (.ref s.heap.objs.size) { s with heap:=h',toks:=tk }:=by
  intro its h' tk hlen hS hk;have e:its.toArray.size=r.length:=by simpa using hlen
  rw[e]at hS;exact⟨.ref s.heap.objs.size,_,I.laid (a:=s.heap.objs.size) (o:=.set _ (Vr r)) (fun b o z=>hk b o (Y0a z) z) (Y04 _) hS,rfl,q _ _ (I.hok.fresh (Y04 _))⟩
 rcases src with hq|hq
 ·obtain⟨its,rv,pl,hz⟩:=I.list hq;have hlen:its.length=r.length:=by rw[<-rv.length,ZQ]
  exact call_set_list hh pl.isList (by simpa using Wz rv) (by unfold scanBound;simp;lia) fun h' tk hS hk=>fin hlen hS hk
 ·obtain⟨its,rv,pl,hz⟩:=I.tuple hq;have hlen:its.length=r.length:=by rw[<-rv.length,ZQ]
  refine Z7c hh (show s.heap.IsTuple p its.toArray from pl) (by simpa using Wz rv) (by unfold scanBound;simp;lia) fun s' hs'=>?_;obtain⟨h',tk,rfl,hS,hk⟩:=hs';exact fin hlen hS hk
theorem Zbl {r:List Nat}(h:r.Nodup):Vr r=r.length:=by
 unfold Vr;have key:∀ n,n<=r.length->firstMet (fun i=>(r.map fun (n:Nat)=>(n:Int)).getD i 0) n=(r.take n).map fun (n:Nat)=>(n:Int):=by
  intro n
  induction n with
  | zero=>intro _;rfl
  | succ n ih=>
   intro hn;have hlt:n<r.length:=hn;rw[firstMet_succ,ih (by lia),Y1v,Y01 hlt];have e:(r.map fun (n:Nat)=>(n:Int)).getD n 0=(r[n]:Int):=(by simp[Y0h,hlt]);rw[e];unfold step_dedup;rw[if_neg]
   ·rw[Y0t];rfl
   ·intro hc;have hmem:r[n]∈r.take n:=by
     rw[Y2q]at hc;obtain⟨z,hz,ez⟩:=hc;obtain⟨m,hm,rfl⟩:=Y0d.mp hz;have:m=r[n]:=(by have:=beq_iff_eq.mp ez;lia);rw[<-this];exact hm
    obtain⟨i,hi,ei⟩:=Y1g.mp hmem;have hi':i<n:=(by simp at hi;lia);have:r[i]=r[n]:=(by rw[<-ei];simp);have hp:=Y25.mp h i n (by lia) hlt hi';exact hp this
 rw[key r.length (Y04 _)];simp
theorem Z62:YM X (.builtin "len") (fun xs H Q=>∃ (p:Addr) (S:Int->Bool) (n:Nat),xs=[.ref p]/\H p=some (.set S n)/\Q (.int (n:Int)) H):=by
 intro pins s σ H xs us Q I r h;obtain⟨p,S,n,rfl,hp,q⟩:=h;obtain⟨u,rfl,ru⟩:=YE r;obtain rfl:u=Value.ref p:=ru;obtain⟨o,es,ep,t,h1,h2,h3,h4,h5,h6,h7,h8⟩:=(show Zi X.prog X.w H s.heap p (.set S n) from I.hok p _ hp);refine call_len_set h1 h2 h3 h7 (by unfold scanBound at h6;lia) ⟨.int (n:Int),H,I.tok _,⟨_,by rw[h8]⟩,q⟩
end
theorem SU {sq:Hp->List V->Prop}{xs:List V}{g:TG}{tb:TS}{D:YZ}{σ:St}{H:Hp}(Pv:Nat->St->Hp->Prop)(h0:Pv 0 σ H)(hl:∀ i σ H,i<=xs.length->Pv i σ H->sq H xs)
  (hs:∀ i x σ H T,xs[i]?=some x->H T=none->Pv i σ H->g (.ref T) σ (upd H T (Yq T [.int (i:Int),x])) fun σ2 H2=>tb { D with nx:=Pv (i+1),ct:=Pv (i+1),bk:=D.nx } σ2 H2) (hd:∀ σ H,Pv xs.length σ H->D.nx σ H) :
  ∃ W:Nat->Nat->St->Hp->Prop,(∃ m,W 0 m σ H)/\∀ i m σ H,W i m σ H->
   ((U9 sq).stop i H/\D.nx σ H)\/((U9 sq).go i H/\∃ N:St->Hp->Prop,(∀ σ' H',N σ' H'->∃ m',m'<m/\W (i+1) m' σ' H')/\∀ x H',(U9 sq).yld i H x H'->g x σ H' fun σ2 H2=>tb { D with nx:=N,ct:=N,bk:=D.nx } σ2 H2):=by
 refine⟨fun i m σ H=>m=xs.length-i/\i<=xs.length/\Pv i σ H,⟨xs.length,by simp,Y0y _,h0⟩,?_⟩;rintro i m σ H ⟨rfl,hi,p⟩;have q:=hl i σ H hi p
 by_cases hlt:i<xs.length
 ·refine .inr ⟨⟨xs,xs[i],q,by simp[hlt]⟩,Pv (i+1),fun σ' H' p'=>⟨xs.length-(i+1),by omega,rfl,hlt,p'⟩,fun x H' y=>?_⟩;obtain⟨T,z,hT,rfl,hz,rfl⟩:=y;exact hs i z σ H T (hz xs q) hT p
 ·have e:i=xs.length:=by omega
  subst e;exact .inl ⟨⟨xs,q,rfl⟩,hd σ H p⟩
theorem Zab {a:Addr}{kvs:List (Key×V)}{o:Obj}{g:TG}{tb:TS}{D:YZ}{σ:St}{H:Hp}(Pv:Nat->St->Hp->Prop)(h0:Pv 0 σ H)(hl:∀ i σ H,i<=kvs.length->Pv i σ H->H a=some (.frz o (.dK kvs)))
  (hs:∀ i k v σ H T,kvs[i]?=some (k,v)->H T=none->Pv i σ H->g (.ref T) σ (upd H T (.tup [kV k,v])) fun σ2 H2=>tb { D with nx:=Pv (i+1),ct:=Pv (i+1),bk:=D.nx } σ2 H2) (hd:∀ σ H,Pv kvs.length σ H->D.nx σ H) :
  ∃ W:Nat->Nat->St->Hp->Prop,(∃ m,W 0 m σ H)/\∀ i m σ H,W i m σ H->
   ((Itd a kvs o).stop i H/\D.nx σ H)\/((Itd a kvs o).go i H/\∃ N:St->Hp->Prop,(∀ σ' H',N σ' H'->∃ m',m'<m/\W (i+1) m' σ' H')/\∀ x H',(Itd a kvs o).yld i H x H'->g x σ H' fun σ2 H2=>tb { D with nx:=N,ct:=N,bk:=D.nx } σ2 H2):=by
 refine⟨fun i m σ H=>m=kvs.length-i/\i<=kvs.length/\Pv i σ H,⟨kvs.length,by simp,Y0y _,h0⟩,?_⟩;rintro i m σ H ⟨rfl,hi,p⟩;have q:=hl i σ H hi p
 by_cases hlt:i<kvs.length
 ·refine .inr ⟨⟨q,kvs[i],by simp[hlt]⟩,Pv (i+1),fun σ' H' p'=>⟨kvs.length-(i+1),by omega,rfl,hlt,p'⟩,fun x H' y=>?_⟩;obtain⟨T,k,v,hT,rfl,hz,rfl⟩:=y;exact hs i k v σ H T hz hT p
 ·have e:i=kvs.length:=by omega
  subst e;exact .inl ⟨⟨q,Y04 _⟩,hd σ H p⟩
def ZgA (n:Nat)(ys:List V)(Pv:Nat->St->Hp->Prop)(d:Addr)(i:Nat)(σ3:St)(y:V)(H4:Hp):Prop:=
 ∃ xs,H4 d=some (.lst xs)/\xs.length<sizeLine/\∃ m',m'<n-i/\m'=n-(i+1)/\i+1<=n/\Pv (i+1) σ3 (upd H4 d (.lst (xs++[y])))/\(upd H4 d (.lst (xs++[y]))) d=some (.lst (ys.take (i+1)))
theorem YN {n:Nat}{ys:List V}{Pv:Nat->St->Hp->Prop}{d:Addr}{i:Nat}{σ3:St}{y:V}{H4:Hp}(hi:i<n)(hn:n<=1000)(hd:H4 d=some (.lst (ys.take i)))(hy:ys[i]?=some y)(hp:Pv (i+1) σ3 (upd H4 d (.lst (ys.take (i+1))))) :
  ZgA n ys Pv d i σ3 y H4:=by
 have e:ys.take (i+1)=ys.take i++[y]:=by rw[Y1v,hy];rfl
 refine⟨_,hd,?_,n-(i+1),by omega,rfl,hi,by rw[<-e];exact hp,by rw[Z2,e]⟩;have:(ys.take i).length<=i:=by rw[Y1m];exact Nat.min_le_left _ _
 exact Zj (by omega)
theorem YR {J:It}{g:TG}{te:TE}{d:Addr}{σ0:St}{H1:Hp}{Q:Addr->Hp->Prop}(n:Nat)(ys:List V)(hy:ys.length=n)(Pv:Nat->St->Hp->Prop)(h0:Pv 0 σ0 (upd H1 d (.lst [])))
  (go:∀ i σ H,i<n->Pv i σ H->H d=some (.lst (ys.take i))->J.go i H/\∀ x H2,J.yld i H x H2->g x σ H2 fun σ3 H3=>te σ3 H3 fun y H4=>ZgA n ys Pv d i σ3 y H4)
  (stop:∀ σ H,Pv n σ H->H d=some (.lst ys)->J.stop n H/\Q d H) :
  ∃ W:Nat->Nat->St->Hp->Prop,(∃ m,W 0 m σ0 (upd H1 d (.lst [])))/\∀ i m σ' H',W i m σ' H'->
   (J.stop i H'/\Q d H')\/(J.go i H'/\∀ x H2,J.yld i H' x H2->g x σ' H2 fun σ3 H3=>te σ3 H3 fun y H4=>∃ xs,H4 d=some (.lst xs)/\xs.length<sizeLine/\∃ m',m'<m/\W (i+1) m' σ3 (upd H4 d (.lst (xs++[y])))):=by
 refine⟨fun i m σ H=>m=n-i/\i<=n/\Pv i σ H/\H d=some (.lst (ys.take i)),⟨n,by simp,Y0y _,h0,Z2⟩,?_⟩;rintro i m σ H ⟨rfl,hi,p,hd⟩
 by_cases hlt:i<n
 ·exact .inr (go i σ H hlt p hd)
 ·have e:i=n:=by omega
  subst e;rw[List.take_of_length_le (by omega)]at hd;exact .inl (stop σ H p hd)
end L2
namespace Sq
theorem XE {α:Type}[DecidableEq α]:∀ (l l':List α),l.Nodup->(∀ x∈l,x∈l')->l.length<=l'.length
 | [],_,_,_=>Y0y _
 | a::l,l',nd,h=>by
  have nd':=Y2k.mp nd;have ha:a∈l':=h a Y1r;have:=XE l (l'.erase a) nd'.2 fun x hx=>by
   have hne:x≠a:=fun e=>nd'.1 (e ▸ hx);exact (List.mem_erase_of_ne hne).mpr (h x (Y0r _ hx))
  rw[List.length_erase_of_mem ha]at this;have:=List.length_pos_of_mem ha;simp only[Y0f];lia
theorem full {α:Type}[DecidableEq α]{l l':List α}(nd:l.Nodup)(h:∀ x∈l,x∈l')(hl:l'.length<=l.length):∀ x∈l',x∈l:=fun x hx=>by
 refine Classical.byContradiction fun hn=>?_;have h1:(x::l).Nodup:=Y2k.mpr ⟨hn,nd⟩;have h2:=XE (x::l) l' h1 fun y hy=>by
  rcases Y0k.mp hy with rfl|hy
  ·exact hx
  ·exact h y hy
 simp only[Y0f]at h2;lia
theorem Zeu {α:Type}{l:List α}(nd:l.Nodup){i j:Nat}(hi:i<l.length)(hj:j<l.length)(e:l[i]=l[j]):i=j:=by
 have h:=Y25.mp nd;rcases Y3h i j with c|c|c
 ·exact absurd e (h i j hi hj c)
 ·exact c
 ·exact absurd e.symm (h j i hj hi c)
structure Row (n:Nat)(r:List Nat):Prop where
 len:r.length=n
 nd:r.Nodup
 lt:∀ x∈r,x<n
noncomputable abbrev nx (r:List Nat)(x:Nat):Nat:=r.getD x 0
section
variable {n:Nat}{r:List Nat}
theorem Row.get (h:Row n r){i:Nat}(hi:i<n):r[i]?=some (nx r i):=by
 have:i<r.length:=by rw[h.len];exact hi
 simp[nx,Y3b,Y01 this]
theorem Row.mem (h:Row n r){i:Nat}(hi:i<n):nx r i∈r:=Y0o (h.get hi)
theorem Row.nlt (h:Row n r){i:Nat}(hi:i<n):nx r i<n:=h.lt _ (h.mem hi)
theorem Row.has (h:Row n r){x:Nat}(hx:x<n):x∈r:=by
 refine full h.nd (l':=Y03 n) (fun y hy=>Y08.mpr (h.lt y hy)) (by simp[h.len]) x (Y08.mpr hx)
theorem Row.inj (h:Row n r){i j:Nat}(hi:i<n)(hj:j<n)(e:nx r i=nx r j):i=j:=by
 have h1:i<r.length:=by rw[h.len];exact hi
 have h2:j<r.length:=by rw[h.len];exact hj
 have e':r[i]=r[j]:=by simpa [nx,Y3b,Y01 h1,Y01 h2] using e
 exact Zeu h.nd h1 h2 e'
theorem Row.idx_lt (h:Row n r){x:Nat}(hx:x<n):r.idxOf x<n:=by
 have:=Y1j (h.has hx)
 rwa [h.len]at this
theorem Row.nx_idx (h:Row n r){x:Nat}(hx:x<n):nx r (r.idxOf x)=x:=by
 have h1:=Y1j (h.has hx);simp[nx,Y3b,Y01 h1]
theorem Row.idx_nx (h:Row n r){i:Nat}(hi:i<n):r.idxOf (nx r i)=i:=
 h.inj (h.idx_lt (h.nlt hi)) hi (h.nx_idx (h.nlt hi))
theorem Row.of_perm {l:List Nat}(p:l.Perm (Y03 n)):Row n l where
 len:=by simpa using p.length_eq
 nd:=p.nodup_iff.mpr Y1y
 lt:=fun x hx=>Y08.mp (p.mem_iff.mp hx)
theorem Row.perm (h:Row n r):r.Perm (Y03 n):=by
 refine (Y32 h.nd Y1y).mpr fun x=>⟨fun hx=>Y08.mpr (h.lt x hx),fun hx=>h.has (Y08.mp hx)⟩
end
noncomputable def back (r:List Nat):List Nat:=(Y03 r.length).map fun x=>r.idxOf x
theorem Tb (r:List Nat):(back r).length=r.length:=by simp[back]
theorem VM {n:Nat}{r:List Nat}(h:Row n r){x:Nat}(hx:x<n):nx (back r) x=r.idxOf x:=by
 have:x<r.length:=by rw[h.len];exact hx
 simp[nx,back,Y3b,this]
theorem Row.back {n:Nat}{r:List Nat}(h:Row n r):Row n (back r) where
 len:=by rw[Tb,h.len]
 nd:=by
  refine Y2l.mpr (List.Pairwise.imp_of_mem (fun {a b} ha hb hne e=>hne ?_) (Y1y (n:=r.length)));rw[h.len]at ha hb;have ha:=Y08.mp ha;have hb:=Y08.mp hb;rw[<-h.nx_idx ha,e,h.nx_idx hb]
 lt:=fun x hx=>by
  obtain⟨y,hy,rfl⟩:=Y0d.mp hx;rw[h.len]at hy;exact h.idx_lt (Y08.mp hy)
def ZiH (n:Nat)(r u:List Nat)(T:Nat->Prop):Prop:=∀ x,x<n->T x->T (nx r x)/\T (nx u x)
structure ZK (n:Nat)(r u:List Nat):Prop where
 pos:1<=n
 most:n<=36
 row:Row n r
 col:Row n u
 conn:∀ T:Nat->Prop,T 0->ZiH n r u T->∀ x,x<n->T x
theorem Zda {n:Nat}{line left:List Nat}{k:Nat}{y:Nat}(p:(line++left).Perm (Y03 n))(e:left[k]?=some y) :
  ((line++[y])++left.eraseIdx k).Perm (Y03 n):=by
 refine List.Perm.trans ?_ p;rw[Y2c];refine List.Perm.append_left _ ?_;have hk:k<left.length:=(Y07.mp e).1;have hy:left[k]=y:=(Y07.mp e).2;have h1:left=left.take k++left[k]::left.drop (k+1):=by
  rw[<-Y26 hk,Y2g]
 rw[List.eraseIdx_eq_take_drop_succ]
 conv=>rhs;rw[h1,hy]
 exact (List.perm_middle (a:=y) (l₁:=left.take k) (l₂:=left.drop (k+1))).symm
structure Met (n:Nat)(r u:List Nat)(first:Nat)(M:List Nat)(k:Nat):Prop where
 nd:M.Nodup
 hd:first∈M
 lt:∀ x∈M,x<n
 kle:k<=M.length
 shut:∀ i x,i<k->M[i]?=some x->nx r x∈M/\nx u x∈M
 least:∀ T:Nat->Prop,T first->ZiH n r u T->∀ x∈M,T x
theorem Met.len {n:Nat}{r u:List Nat}{first:Nat}{M:List Nat}{k:Nat}(h:Met n r u first M k):M.length<=n:=by
 have:=XE M (Y03 n) h.nd fun x hx=>Y08.mpr (h.lt x hx)
 simpa using this
theorem Met.start {n:Nat}{r u:List Nat}{first:Nat}(h:first<n):Met n r u first [first] 0 where
 nd:=by simp
 hd:=by simp
 lt:=fun x hx=>by rw[Y0c.mp hx];exact h
 kle:=Y0y _
 shut:=fun i x hi=>absurd hi (Y1w _)
 least:=fun T h0 _ x hx=>by rw[Y0c.mp hx];exact h0
noncomputable def put (M:List Nat)(y:Nat):List Nat:=if y∈M then M else M++[y]
theorem Ye {M:List Nat}{y x:Nat}:x∈put M y↔x∈M\/x=y:=by
 unfold put;split
 ·rename_i h;exact⟨.inl,fun q=>q.elim id fun e=>e ▸ h⟩
 ·simp
theorem Zao {M:List Nat}{y x:Nat}{i:Nat}(h:M[i]?=some x):(put M y)[i]?=some x:=by
 unfold put;split
 ·exact h
 ·rw[Y0z (Y07.mp h).1];exact h
theorem ZbD {M:List Nat}{y:Nat}:M.length<=(put M y).length:=by
 unfold put;split<;>simp
theorem Zeb {M:List Nat}{y:Nat}(h:M.Nodup):(put M y).Nodup:=by
 unfold put;split
 ·exact h
 ·rename_i hy;exact Y2m.mpr ⟨h,by simp,fun a ha b hb e=>hy (by rw[Y0c.mp hb]at e;exact e ▸ ha)⟩
theorem Met.step {n:Nat}{r u:List Nat}{first:Nat}{M:List Nat}{k x:Nat}(h:Met n r u first M k)(hr:Row n r)(hu:Row n u)(hx:M[k]?=some x) :
  Met n r u first (put (put M (nx r x)) (nx u x)) (k+1) where
 nd:=Zeb (Zeb h.nd)
 hd:=Ye.mpr (.inl (Ye.mpr (.inl h.hd)))
 lt:=fun y hy=>by
  have hxn:=h.lt x (Y0o hx);rcases Ye.mp hy with hy|rfl
  ·rcases Ye.mp hy with hy|rfl
   ·exact h.lt y hy
   ·exact hr.nlt hxn
  ·exact hu.nlt hxn
 kle:=by
  have:=(Y07.mp hx).1;have h1:=ZbD (M:=M) (y:=nx r x);have h2:=ZbD (M:=put M (nx r x)) (y:=nx u x);lia
 shut:=fun i y hi hy=>by
  have hk:=(Y07.mp hx).1;have hi':i<M.length:=by lia
  have e:M[i]?=some M[i]:=Y01 hi';have e2:=Zao (y:=nx u x) (Zao (y:=nx r x) e);rw[hy]at e2;have e3:y=M[i]:=Option.some.inj e2;rw[<-e3]at e;rcases Y0x i k with hlt|hge
  ·obtain⟨a,b⟩:=h.shut i y hlt e;exact⟨Ye.mpr (.inl (Ye.mpr (.inl a))),Ye.mpr (.inl (Ye.mpr (.inl b)))⟩
  ·have:i=k:=(by lia);subst this;rw[hx]at e;cases e;exact⟨Ye.mpr (.inl (Ye.mpr (.inr rfl))),Ye.mpr (.inr rfl)⟩
 least:=fun T h0 hs y hy=>by
  have hxM:=Y0o hx;have hxn:=h.lt x hxM;have hT:=h.least T h0 hs x hxM;rcases Ye.mp hy with hy|rfl
  ·rcases Ye.mp hy with hy|rfl
   ·exact h.least T h0 hs y hy
   ·exact (hs x hxn hT).1
  ·exact (hs x hxn hT).2
structure Ub (n:Nat)(r u:List Nat)(first:Nat)(M:List Nat):Prop where
 nd:M.Nodup
 hd:first∈M
 lt:∀ x∈M,x<n
 shut:∀ x∈M,nx r x∈M/\nx u x∈M
 least:∀ T:Nat->Prop,T first->ZiH n r u T->∀ x∈M,T x
theorem Met.all {n:Nat}{r u:List Nat}{first:Nat}{M:List Nat}{k:Nat}(h:Met n r u first M k)(hk:M.length<=k):Ub n r u first M where
 nd:=h.nd
 hd:=h.hd
 lt:=h.lt
 shut:=fun x hx=>by
  obtain⟨i,hi,e⟩:=Y1g.mp hx;exact h.shut i x (by lia) (by rw[Y01 hi,e])
 least:=h.least
theorem Ub.perm {n:Nat}{r u:List Nat}{first:Nat}{M S:List Nat}(h:Ub n r u first M)(p:S.Perm M):Ub n r u first S where
 nd:=p.nodup_iff.mpr h.nd
 hd:=p.mem_iff.mpr h.hd
 lt:=fun x hx=>h.lt x (p.mem_iff.mp hx)
 shut:=fun x hx=>⟨p.mem_iff.mpr (h.shut x (p.mem_iff.mp hx)).1,p.mem_iff.mpr (h.shut x (p.mem_iff.mp hx)).2⟩
 least:=fun T h0 hs x hx=>h.least T h0 hs x (p.mem_iff.mp hx)
noncomputable def Yx (r S:List Nat):List Nat:=S.map fun x=>S.idxOf (nx r x)
theorem Z7k (r S:List Nat):(Yx r S).length=S.length:=by simp[Yx]
theorem Z8H {r S:List Nat}{i:Nat}{x:Nat}(h:S[i]?=some x):nx (Yx r S) i=S.idxOf (nx r x):=by
 simp[nx,Yx,Y3b,h]
theorem ZaY {S:List Nat}(nd:S.Nodup){i x:Nat}(h:S[i]?=some x):S.idxOf x=i:=by
 obtain⟨hi,e⟩:=Y07.mp h;have hm:x∈S:=Y0o h;have h1:=Y1j hm;have e1:S[S.idxOf x]=x:=Y41 h1;exact Zeu nd h1 hi (e1.trans e.symm)
theorem S5 {S:List Nat}{x:Nat}(h:x∈S):S[S.idxOf x]?=some x:=by
 have h1:=Y1j h;rw[Y01 h1,Y41 h1]
theorem Z7a {n:Nat}{r S:List Nat}(hr:Row n r)(nd:S.Nodup)(lt:∀ x∈S,x<n)(cl:∀ x∈S,nx r x∈S):Row S.length (Yx r S) where
 len:=Z7k r S
 nd:=by
  refine Y2l.mpr (List.Pairwise.imp_of_mem (fun {a b} ha hb hne e=>hne ?_) nd);have h1:=S5 (cl a ha);rw[e,S5 (cl b hb)]at h1;exact hr.inj (lt a ha) (lt b hb) (Option.some.inj h1).symm
 lt:=fun x hx=>by
  obtain⟨y,hy,rfl⟩:=Y0d.mp hx;exact Y1j (cl y hy)
theorem Z7Y {n:Nat}{r u S:List Nat}(hn:n<=36)(hr:Row n r)(hu:Row n u)(h:Ub n r u 0 S)(so:S.Pairwise (·<=·)):ZK S.length (Yx r S) (Yx u S) where
 pos:=List.length_pos_of_mem h.hd
 most:=by
  have:=XE S (Y03 n) h.nd fun x hx=>Y08.mpr (h.lt x hx);simp only[Y0m]at this;lia
 row:=Z7a hr h.nd h.lt fun x hx=>(h.shut x hx).1
 col:=Z7a hu h.nd h.lt fun x hx=>(h.shut x hx).2
 conn:=fun T h0 hs i hi=>by
  have z:S[0]?=some 0:=by
   cases S with
   | nil=>exact absurd h.hd (by simp)
   | cons a S=>
    rcases Y0k.mp h.hd with e|hm
    ·simp[<-e]
    ·have:=(Y3c.mp so).1 0 hm;have:a=0:=(by lia);simp[this]
  have key:=h.least (fun x=>x∈S/\T (S.idxOf x)) ⟨h.hd,by rw[ZaY h.nd z];exact h0⟩ fun x _ ⟨hx,t⟩=>by
   have hlt:=Y1j hx;have:=hs (S.idxOf x) hlt t;rw[Z8H (S5 hx),Z8H (S5 hx)]at this;exact⟨⟨(h.shut x hx).1,this.1⟩,(h.shut x hx).2,this.2⟩
  have e:S[i]?=some S[i]:=Y01 hi;have:=(key S[i] (Y15 hi)).2
  rwa [ZaY h.nd e]at this
theorem Z2B:∀ {l l':List Nat},l.Perm l'->l.Pairwise (·<=·)->l'.Pairwise (·<=·)->l=l'
 | [],l',p,_,_=>(List.nil_perm.mp p).symm
 | a::l,[],p,_,_=>absurd p.length_eq (by simp)
 | a::l,b::l',p,h,h'=>by
  have ha:=Y3c.mp h;have hb:=Y3c.mp h';have e:a=b:=by
   have h1:a∈b::l':=p.mem_iff.mp Y1r;have h2:b∈a::l:=p.mem_iff.mpr Y1r;rcases Y0k.mp h1 with e|h1
   ·exact e
   ·rcases Y0k.mp h2 with e|h2
    ·exact e.symm
    ·have:=hb.1 a h1;have:=ha.1 b h2;lia
  subst e;rw[Z2B (List.Perm.cons_inv p) ha.2 hb.2]
theorem Z4j (n:Nat):(Y03 n).Pairwise (·<=·):=List.Pairwise.imp (fun h=>Y14 h) Y2s
theorem Row.sorted {n:Nat}{r S:List Nat}(h:Row n r)(p:S.Perm r)(so:S.Pairwise (·<=·)):S=Y03 n:=
 Z2B (p.trans h.perm) so (Z4j n)
end Sq
namespace Sq
noncomputable def rw4 (r u:List Nat)(c:Nat):List Nat:=match c with
 | 0=>r
 | 1=>back r
 | 2=>u
 | _=>back u
theorem ZbA {n:Nat}{r u:List Nat}(hr:Row n r)(hu:Row n u)(c:Nat):Row n (rw4 r u c):=by
 unfold rw4;split
 ·exact hr
 ·exact hr.back
 ·exact hu
 ·exact hu.back
noncomputable def go (r u:List Nat)(x:Nat)(p:List Nat):Nat:=p.foldl (fun x c=>nx (rw4 r u c) x) x
theorem Zf0 (r u:List Nat)(x:Nat)(p:List Nat)(c:Nat):go r u x (p++[c])=nx (rw4 r u c) (go r u x p):=by simp[go]
structure Pth (n:Nat)(r u:List Nat)(first:Nat)(F:List Nat)(P:List (List Nat))(k j:Nat):Prop where
 nd:F.Nodup
 hd:first∈F
 lt:∀ x∈F,x<n
 len:P.length=F.length
 kle:k<=F.length
 shut:∀ i x,i<k->F[i]?=some x->∀ c,c<4->nx (rw4 r u c) x∈F
 part:∀ x,F[k]?=some x->∀ c,c<j->nx (rw4 r u c) x∈F
 jz:j=0\/k<F.length
 ok:∀ i x p,F[i]?=some x->P[i]?=some p->go r u first p=x/\p.length<=i/\∀ c∈p,c<4
variable {n:Nat}{r u:List Nat}{first:Nat}{F:List Nat}{P:List (List Nat)}{k j:Nat}
theorem Pth.start (h:first<n):Pth n r u first [first] [[]] 0 0 where
 nd:=by simp
 hd:=by simp
 lt:=fun x hx=>by rw[Y0c.mp hx];exact h
 len:=rfl
 kle:=Y0y _
 shut:=fun i x hi=>absurd hi (Y1w _)
 part:=fun x _ c hc=>absurd hc (Y1w _)
 jz:=.inl rfl
 ok:=fun i x p hx hp=>by
  cases i with
  | zero=>simp at hx hp;subst hx hp;simp[go]
  | succ i=>simp at hx
theorem Pth.flen (h:Pth n r u first F P k j):F.length<=n:=by
 have:=XE F (Y03 n) h.nd fun x hx=>Y08.mpr (h.lt x hx)
 simpa using this
theorem Pth.old {x:Nat}(h:Pth n r u first F P k j)(hx:F[k]?=some x)(hm:nx (rw4 r u j) x∈F):Pth n r u first F P k (j+1):=
 { h with
  part:=fun y hy c hc=>by
   rw[hx]at hy;cases hy
   rcases Y0x c j with q|q
   ·exact h.part x hx c q
   ·have:c=j:=by lia
    subst this;exact hm
  jz:=.inr (Y07.mp hx).1 }
theorem Pth.new {x:Nat}{p:List Nat}(h:Pth n r u first F P k j)(hr:Row n r)(hu:Row n u)(hj:j<4)(hx:F[k]?=some x)(hp:P[k]?=some p)(hm:nx (rw4 r u j) x∉F) :
  Pth n r u first (F++[nx (rw4 r u j) x]) (P++[p++[j]]) k (j+1):=by
 have hk:=(Y07.mp hx).1;have old:∀ i y,i<=k->(F++[nx (rw4 r u j) x])[i]?=some y->F[i]?=some y:=fun i y hi hy=>by
  rwa [Y0z (by lia)]at hy
 refine⟨?_,by simp[h.hd],?_,by simp[h.len],by simp;lia,?_,?_,.inr (by simp;lia),?_⟩
 ·exact Y2m.mpr ⟨h.nd,by simp,fun a ha b hb e=>hm (by rw[Y0c.mp hb]at e;exact e ▸ ha)⟩
 ·intro y hy;rcases Y1d.mp hy with hy|hy
  ·exact h.lt y hy
  ·rw[Y0c.mp hy];exact (ZbA hr hu j).nlt (h.lt x (Y0o hx))
 ·intro i y hi hy c hc;exact Y1x _ (h.shut i y hi (old i y (by lia) hy) c hc)
 ·intro y hy c hc;have hy':=old k y (Y04 _) hy;rw[hx]at hy';cases hy';rcases Y0x c j with q|q
  ·exact Y1x _ (h.part x hx c q)
  ·have:c=j:=(by lia);subst this;simp
 ·intro i y q hy hq;rcases Y3h i F.length with c|c|c
  ·rw[Y0z c]at hy;rw[Y0z (by rw[h.len];exact c)]at hq;exact h.ok i y q hy hq
  ·subst c;rw[Y1q (Y04 _)]at hy;rw[Y1q (by rw[h.len];exact Y04 _)]at hq;simp[h.len]at hy hq;subst hy hq;obtain⟨a,b,d⟩:=h.ok k x p hx hp;refine⟨by rw[Zf0,a];simp[nx],by simp;lia,fun c hc=>?_⟩;rcases Y1d.mp hc with hc|hc
   ·exact d c hc
   ·rw[Y0c.mp hc];exact hj
  ·rw[Y29 (by simp;lia)]at hy;cases hy
theorem Pth.next {x:Nat}(h:Pth n r u first F P k 4)(hx:F[k]?=some x):Pth n r u first F P (k+1) 0:=
 { h with
  kle:=(Y07.mp hx).1
  shut:=fun i y hi hy c hc=>by
   rcases Y0x i k with q|q
   ·exact h.shut i y q hy c hc
   ·have:i=k:=by lia
    subst this;exact h.part y hy c hc
  part:=fun y _ c hc=>absurd hc (Y1w _)
  jz:=.inl rfl }
structure SL (n:Nat)(r u:List Nat)(first:Nat)(F:List Nat)(P:List (List Nat)):Prop where
 nd:F.Nodup
 hd:first∈F
 lt:∀ x∈F,x<n
 len:P.length=F.length
 shut:∀ x∈F,∀ c,c<4->nx (rw4 r u c) x∈F
 ok:∀ i x p,F[i]?=some x->P[i]?=some p->go r u first p=x/\p.length<=i/\∀ c∈p,c<4
theorem Pth.all (h:Pth n r u first F P k j)(hk:F.length<=k):SL n r u first F P:=
 { h with
  shut:=fun x hx c hc=>by
   obtain⟨i,hi,e⟩:=Y1g.mp hx
   exact h.shut i x (by lia) (by rw[Y01 hi,e]) c hc }
theorem SL.full (s:ZK n r u)(h:SL n r u 0 F P):Row n F:=by
 have all:∀ x,x<n->x∈F:=s.conn (fun x=>x∈F) h.hd fun x _ hx=>⟨h.shut x hx 0 (by decide),h.shut x hx 2 (by decide)⟩;have l1:=XE F (Y03 n) h.nd fun x hx=>Y08.mpr (h.lt x hx);have l2:=XE (Y03 n) F Y1y fun x hx=>all x (Y08.mp hx);simp only[Y0m]at l1 l2;exact⟨by lia,h.nd,h.lt⟩
end Sq
namespace K1
open PySem L2
noncomputable def top (i:Nat):Stmt:=PySem.Challenge.pw_squaresheet_k94_desk_rows.main.body.getD i (.Pass ⟨0,0,0,0⟩)
noncomputable abbrev UI:Stmt:=top 18
noncomputable abbrev Vj:Stmt:=top 19
noncomputable abbrev W1:Stmt:=top 20
noncomputable abbrev UH:Stmt:=top 22
noncomputable abbrev Vh:Stmt:=top 23
noncomputable abbrev UR:Stmt:=top 24
noncomputable abbrev T3:Stmt:=top 25
noncomputable abbrev Uv:Stmt:=top 27
noncomputable abbrev Ua:Stmt:=top 28
noncomputable abbrev Um:Stmt:=top 29
noncomputable abbrev U0:Stmt:=top 30
noncomputable abbrev XF:Stmt:=top 31
noncomputable abbrev WD:Stmt:=top 33
noncomputable abbrev VB:Stmt:=top 34
noncomputable abbrev UB:Stmt:=top 35
noncomputable abbrev VU:Stmt:=top 36
noncomputable abbrev U6:Stmt:=top 37
noncomputable abbrev T2:Stmt:=top 39
noncomputable abbrev UT:Stmt:=top 40
noncomputable abbrev WX:Stmt:=top 41
noncomputable abbrev WC:Stmt:=top 42
noncomputable abbrev V2:Stmt:=top 43
noncomputable abbrev V4:Stmt:=top 44
noncomputable abbrev V3:Stmt:=top 45
noncomputable abbrev UA:Stmt:=top 76
noncomputable abbrev V0:Stmt:=top 88
noncomputable abbrev Ze6:Stmt:=top 91
noncomputable abbrev Zh2:Stmt:=top 92
noncomputable abbrev Z6m:Stmt:=top 93
noncomputable abbrev ZbS:Stmt:=top 94
noncomputable abbrev Ug:Stmt:=top 97
noncomputable abbrev Vg:Stmt:=top 98
noncomputable abbrev Us:Stmt:=top 99
noncomputable abbrev VG:Stmt:=top 100
noncomputable abbrev VP:Stmt:=top 101
noncomputable abbrev V5:Stmt:=top 102
noncomputable abbrev VZ:Stmt:=top 109
noncomputable abbrev Wl:Stmt:=top 110
noncomputable abbrev UP:Stmt:=top 111
noncomputable abbrev V1:Stmt:=top 113
noncomputable abbrev Vs:Stmt:=top 115
noncomputable abbrev VX:Stmt:=top 116
noncomputable abbrev Ve:Stmt:=top 134
noncomputable abbrev UJ:Stmt:=top 135
noncomputable abbrev UG:Stmt:=top 136
noncomputable abbrev Uw:Stmt:=top 137
noncomputable abbrev VO:Stmt:=top 138
noncomputable abbrev WL:Stmt:=top 139
noncomputable abbrev UV:Stmt:=top 140
noncomputable abbrev Vz:Stmt:=top 146
noncomputable abbrev WH:Stmt:=top 147
noncomputable abbrev U5:Stmt:=top 148
noncomputable abbrev Wm:Stmt:=top 149
noncomputable abbrev VS:Stmt:=top 150
noncomputable abbrev Xl:Stmt:=top 151
noncomputable abbrev UZ:Stmt:=top 152
noncomputable abbrev UL:Stmt:=top 153
noncomputable abbrev VI:Stmt:=top 154
noncomputable abbrev W9:Stmt:=top 155
noncomputable abbrev WK:Stmt:=top 156
noncomputable abbrev UX:Stmt:=top 157
noncomputable abbrev WJ:Stmt:=top 158
noncomputable abbrev U7:Stmt:=top 159
noncomputable abbrev U1:Stmt:=top 160
noncomputable abbrev Ue:Stmt:=top 161
noncomputable abbrev TN:Stmt:=top 162
end K1
namespace K1
open PySem L2 Sq
structure Bi (mg:Str->Option Value):Prop where
 len:mg "len"=none
 range:mg "range"=none
 list:mg "list"=none
 tuple:mg "tuple"=none
 isin:mg "isinstance"=none
 int:mg "int"=none
 bool:mg "bool"=none
 all:mg "all"=none
 set:mg "set"=none
 sorted:mg "sorted"=none
 enum:mg "enumerate"=none
structure Fn (K:Y00)(mg:Str->Option Value)(x:Str)(st:Stmt)(ps:List Str)(f:Addr)(fd:FuncData):Prop where
 F:Fun K x x st f fd
 b:YV K fd ps []
 m:mg x=some (.ref f)
def X5 (K:Y00)(H:Hp)(p:Addr)(r:List Nat):Prop:=SqL K H p (nv r)\/SqT K H p (nv r)
def Ww:Sp:=fun vs H Q _=>∃ i:Int,vs=[.int i]/\Q (.bl true) H
def ZaZ:Sp:=fun vs H Q _=>∃ (a:Addr) (r u:List Nat),vs=[.ref a]/\ZN H a r u/\Q (.int (r.length:Int)) H
def T9:Sp:=fun vs H Q _=>∃ i n:Int,vs=[.int i,.int n]/\Q (.bl (decide (0<=i/\i<n))) H
theorem W8:bootBuiltins "isinstance"=some (.builtin "isinstance"):=by decide +kernel
theorem Z6s:bootBuiltins "int"=some (.type "int"):=by decide +kernel
theorem Z6F:bootBuiltins "bool"=some (.type "bool"):=by decide +kernel
theorem Yg:bootBuiltins "tuple"=some (.type "tuple"):=by decide +kernel
theorem To:bootBuiltins "list"=some (.type "list"):=by decide +kernel
theorem Zdz:bootBuiltins "set"=some (.type "set"):=by decide +kernel
theorem US:bootBuiltins "all"=some (.builtin "all"):=by decide +kernel
theorem V7:bootBuiltins "sorted"=some (.builtin "sorted"):=by decide +kernel
theorem Zdw (xs:List Nat)(k:Nat):(nv xs).eraseIdx k=nv (xs.eraseIdx k):=by
 unfold nv
 induction xs generalizing k with
 | nil=>rfl
 | cons x xs ih=>cases k with
  | zero=>rfl
  | succ k=>simp only[Y0w,Y49,ih]
theorem Z4 {H H':Hp}{l:Addr}{o:HO}(e:Z7 H H')(h:H l=none):Z7 H (upd H' l o):=fun b u q=>by
 rw[ZZ (Zv q h)];exact e b u q
theorem len2 {α:Type}{l:List α}(h:l.length=2):∃ x y,l=[x,y]:=by
 match l,h with
 | [x,y],_=>exact⟨x,y,rfl⟩
theorem Zfh {H:Hp}{lf:Addr}{left:List Nat}{x:Int}{Q:VK}(h:H lf=some (.lst (nv left)))(h0:0<left.length)(h1:left.length<=36)
  (q:∀ (k y:Nat),left[k]?=some y->Q (.int (y:Int)) (upd H lf (.lst (nv (left.eraseIdx k))))):Zeg (.ref lf) [.int (x%((nv left).length:Int))] H Q:=by
 have hl:=ZQ left;have a0:0<=x%((nv left).length:Int):=Y30 _ (by omega);have a1:x%((nv left).length:Int)<((nv left).length:Int):=Y3d _ (by omega);have a2:(x%((nv left).length:Int)).toNat<left.length:=by omega
 have a3:left[(x%((nv left).length:Int)).toNat]?=some left[(x%((nv left).length:Int)).toNat]:=Y01 a2;refine⟨lf,_,_,(x%((nv left).length:Int)).toNat,_,rfl,rfl,h,by omega,by omega,seqIndex_of a0 a1,Zy a3,?_⟩;rw[Zdw];exact q _ _ a3
theorem Z7.tseq {K:Y00}{H H':Hp}{a:Addr}{xs:List V}(e:Z7 H H')(h:SqT K H a xs):SqT K H' a xs:=by
 rcases h with (h|⟨o,h⟩)|h
 ·exact .inl (.inl (e _ _ h))
 ·exact .inl (.inr ⟨o,e _ _ h⟩)
 ·exact .inr h
theorem X5.same {K:Y00}{H H':Hp}{p:Addr}{r:List Nat}(e:Z7 H H')(h:X5 K H p r):X5 K H' p r:=h.imp e.seq (Z7.tseq e)
theorem T1 {K:Y00}{H:Hp}{p:Addr}{r:List Nat}{n i:Nat}{Q:VK}(h:X5 K H p r)(hr:Row n r)(hi:i<n)(q:Q (.int (nx r i:Int)) H):rIx K (.ref p) (.int (i:Int)) H Q:=by
 rcases h with h|h
 ·exact .inl ⟨p,_,_,_,rfl,rfl,h,ZV (Zy (hr.get hi)),q⟩
 ·exact .inr (.inl ⟨p,_,_,_,rfl,rfl,h,ZV (Zy (hr.get hi)),q⟩)
theorem VL (xs:List Nat):(nv xs).all Xw=true:=by
 rw[Y2d];intro x hx;obtain⟨n,_,rfl⟩:=Y0d.mp hx
 rfl
theorem Vx (x:Nat)(xs:List Nat):inV (.int (x:Int)) (nv xs)=decide (x∈xs):=by
 unfold inV nv;rw[List.any_map];apply Y2j.mpr;rw[Y2q,decide_eq_true_iff];constructor
 ·rintro ⟨y,hy,e⟩;have:(y:Int)=(x:Int):=by simpa [eqV,Sk] using e
  have:y=x:=by omega
  rw[<-this];exact hy
 ·intro h;exact⟨x,h,by simp[eqV,Sk]⟩
noncomputable def mu (j:Nat)(σ:St):Nat:=match σ[j]? with
 | some (some (.int k))=>(100-k).toNat
 | _=>0
theorem Z3P:∀ (l M:List Nat),(l.foldl put M).length<=M.length+l.length
 | [],M=>Y04 _
 | x::l,M=>by
  have h1:=Z3P l (put M x);have h2:(put M x).length<=M.length+1:=by unfold put;split<;>simp
  simp only[List.foldl_cons,Y0f];omega
end K1
namespace L2
open PySem PySem.Spec PyProof.Rows
section
variable {X:Cx}{o i value:Expr}{pos pos':Pos}{to ti tv:TE}
noncomputable def Zj8 (to ti tv:TE):TS:=fun D σ H=>tv σ H fun v H1=>to σ H1 fun x H2=>ti σ H2 fun y H3=>ZgC x y v H3 fun H4=>D.nx σ H4
theorem Z7P (ho:PE X o to)(hi:PE X i ti)(hv:PE X value tv)(hs:swapsWith value (some (.Subscript o i pos')) pos.line X.env=pure false):PS X (.Assign [.Subscript o i pos'] value pos) (Zj8 to ti tv):=by
 intro pins s σ H D I h;refine wpAny_Assign_Subscript (thn (hv pins s σ H _ I h) fun r s1 ⟨v,H1,I1,rv,q1⟩=>thn (ho pins s1 σ H1 _ I1 q1) fun u s2 ⟨x,H2,I2,rx,q2⟩=>thn (hi pins s2 σ H2 _ I2 q2) fun iv s3 ⟨y,H3,I3,ry,q3⟩=>?_) hs;exact thn (Zcz pins s3 σ H3 x y v u iv r _ I3 rx ry rv q3) fun _ s4 ⟨H4,I4,q4⟩=>⟨σ,H4,I4,q4⟩
theorem PI.or {tg iter:Expr}{w1 w2:TI}(h1:PI X tg iter w1)(h2:PI X tg iter w2):PI X tg iter (fun σ H R=>w1 σ H R\/w2 σ H R):=by
 intro pins s σ H R I h;rcases h with h|h
 ·exact h1 pins s σ H R I h
 ·exact h2 pins s σ H R I h
end
end L2
namespace K1
open PySem L2 Sq
theorem Zb8 (xs:List Nat)(j x:Nat):(nv xs).set j (.int (x:Int))=nv (xs.set j x):=by
 unfold nv;rw[List.map_set]
theorem Z6B {n:Nat}{r bl:List Nat}(rr:Row n r)(hl:bl.length=n)(h:∀ k,k<n->bl[nx r k]?=some k):bl=back r:=by
 refine Y31 fun x=>?_
 by_cases hx:x<n
 ·have e:=h (r.idxOf x) (rr.idx_lt hx);rw[rr.nx_idx hx]at e;rw[e,rr.back.get hx,VM rr hx]
 ·rw[Y29 (by omega),Y29 (by rw[Tb,rr.len];omega)]
theorem Zbo {K:Y00}{Hc:Hp}{p:Addr}{r:List Nat}{j:Nat}{Q:VK}{σ:St}(hj:σ[j]?=some (some (.ref p)))(hp:SqT K Hc p (nv r))(hn:r.length<=36)
  (k:∀ (H':Hp) (d:Addr),Z7 Hc H'->H' d=some (.lst ((Y0p r.length true).map V.bl))->Q (.ref d) H') :
  YO (WS K (ZW j)) 1 [] (ZC 0) (Yz Ww [] E0 (ZM (ZW 0) Zx)) σ Hc Q:=by
 refine⟨_,hj,p,rfl,⟨_,hp⟩,fun d hd=>?_⟩;refine YR (Q:=fun d H'=>Q (.ref d) H') r.length ((Y0p r.length true).map V.bl) (by simp) (fun i σ H3=>∃ o,σ=[o]/\Z7 Hc H3) ⟨none,rfl,Z4 (Z7.refl _) hd⟩ ?_ ?_
 ·rintro i σ H3 hi ⟨o,rfl,s3⟩ hd3;have hp3:=Z7.tseq s3 hp;refine⟨⟨_,_,hp3,Zy (Y01 hi)⟩,fun y H4 ⟨e,hy⟩=>?_⟩;subst e;have hy:=hy _ hp3;rw[Zy (Y01 hi)]at hy;cases hy;refine⟨_,rfl,_,rfl,YN hi (by omega) hd3 (by simp[hi]) ⟨_,rfl,Z4 s3 hd⟩⟩
 ·rintro σ H3 ⟨o,rfl,s3⟩ hd3;exact⟨⟨_,Z7.tseq s3 hp,by rw[ZQ];exact Y04 _⟩,k H3 d s3 hd3⟩
theorem ZbO (n:Nat):(Y0p n true).all id=true:=by
 rw[Y2d];intro x hx;rw[(List.mem_replicate.mp hx).2];rfl
section
variable {P:Program}{w:World}{K:Y00}{mg:Str->Option Value}{base:Heap}
theorem Zgi:ZO ["sheet"] ["sheet"] (Z0 Vj):=⟨rfl,rfl,rfl,by decide +kernel,rfl,by decide +kernel,by decide +kernel⟩
theorem ZeM {f:Addr}{fd:FuncData}(T:Bi mg)(F:Fn K mg "size" Vj ["sheet"] f fd):Z6 P w K mg base CX0 1 f fd ["sheet"] ZaZ:=by
 refine F.F.ok Zgi (fun vs H Q E h=>?_) (fun cdv A outer s H vs Q E hr h=>?_)
 ·obtain⟨a,r,u,rfl,_⟩:=h;rfl
 ·obtain⟨a,r,u,rfl,⟨p,q,h1,h2,h3⟩,k⟩:=h;refine⟨_,Z1 (ZS (ZF Zk (by rfl) T.len PySem.boot_len (Z9 (ZY ZA (pv 0) Z3 (fun _ _=>rfl)) Z8))),?_⟩;refine⟨_,rfl,a,_,0,_,rfl,rfl,SqT.of h1,ZV (j:=0) rfl,p,_,rfl,.inr (SqT.of h2),?_⟩;rw[ZQ];exact k
theorem Zhy:ZO ["thing","squares"] ["thing","squares"] (Z0 T3):=⟨rfl,rfl,rfl,by decide +kernel,rfl,by decide +kernel,by decide +kernel⟩
theorem Zgj:ZO ["thing"] ["thing"] (Z0 UR):=⟨rfl,rfl,rfl,by decide +kernel,rfl,by decide +kernel,by decide +kernel⟩
theorem Zfp {f:Addr}{fd:FuncData}(T:Bi mg)(F:Fn K mg "is_whole" UR ["thing"] f fd):Z6 P w K mg base CX0 1 f fd ["thing"] Ww:=by
 refine F.F.ok Zgj (fun vs H Q E h=>?_) (fun cdv A outer s H vs Q E hr h=>?_)
 ·obtain⟨i,rfl,_⟩:=h;rfl
 ·obtain⟨i,rfl,k⟩:=h;refine⟨_,Z1 (ZS (XN (ZF Xa (by rfl) T.isin W8 (Z9 (pv 0) (Z9 (WZ (v:=.ty "int") (by rfl) T.int Z6s rfl) Z8)))
   (WY (Zef (ZF Xa (by rfl) T.isin W8 (Z9 (pv 0) (Z9 (WZ (v:=.ty "bool") (by rfl) T.bool Z6F rfl) Z8))))))),?_⟩
  refine⟨_,rfl,_,_,_,_,rfl,.int i,Z5g K,_,rfl,?_⟩;refine Zo ?_;exact⟨_,rfl,_,_,_,_,rfl,.int i,Z4k K,_,rfl,k⟩
theorem Zey {f fw:Addr}{fd fdw:FuncData}(T:Bi mg)(F:Fn K mg "is_square" T3 ["thing","squares"] f fd)(FW:Fn K mg "is_whole" UR ["thing"] fw fdw):Z6 P w K mg base CX0 2 f fd ["thing","squares"] T9:=by
 have GW:Z6 P w K mg base CX0 1 fw fdw ["thing"] Ww:=Zfp T FW;refine F.F.ok Zhy (fun vs H Q E h=>?_) (fun cdv A outer s H vs Q E hr h=>?_)
 ·obtain⟨i,n,rfl,_⟩:=h;rfl
 ·obtain⟨i,n,rfl,k⟩:=h;refine⟨_,Z1 (ZS (XN (ZU GW hr rfl FW.m FW.F.kp FW.b .nil ZX (Z9 (pv 0) Z8)) (WY (Z6h Wi Vo Z3 (pv 0) (pv 1))))),?_⟩;refine⟨_,rfl,i,rfl,_,rfl,?_⟩;refine Zo ?_;refine⟨_,rfl,_,_,rfl,rfl,_,rfl,?_⟩;refine Yv (fun h=>?_) (fun h=>?_)
  ·have h:0<=i:=of_decide_eq_true h;refine⟨_,rfl,_,_,rfl,rfl,?_⟩;have e:decide (0<=i/\i<n)=decide (i<n):=(by simp[h]);rw[e]at k;exact k
  ·have h:¬ 0<=i:=fun z=>h (decide_eq_true z);have e:decide (0<=i/\i<n)=false:=(by simp[h]);rw[e]at k;exact k
end
end K1
namespace L2
open PySem PySem.Spec PyProof.Rows
noncomputable def Its (z:Str):It:=⟨fun i _=>i<z.length,fun i H x H'=>H'=H/\∃ c,z.cps[i]?=some c/\x=.str ⟨#[c]⟩,fun i _=>z.length=i⟩
theorem Zdm {P:Program}{w:World}{K:Y00}{tg:Expr}(it:Addr)(z:Str)(t:Tok):WO P w K tg (Its z) [it] it (fun i h=>h.IsStrIter it (strIterType z) z t i):=by
 have W:∀ {A:Around},A.handled=none->Walks P w A it [it] [it] z.cps.size (SignAt z) (fun i h=>h.IsStrIter it (strIterType z) z t i):=by
  intro A hh;unfold strIterType
  split
  ·exact Walks.strAscii hh it z t
  ·exact Walks.strWide hh it z t
 have hty:["enumerate","zip","dict_itemiterator","dict_reverseitemiterator","odict_iterator","itertools.zip_longest","itertools.pairwise"].contains (strIterType z)=false:=by
  unfold strIterType;split<;>decide
 exact {
  mem:=by simp
  obj:=fun i h st b hb=>by
   have e:b=it:=by simpa using hb
   subst e
   obtain⟨o,e,c,d⟩:=st
   exact⟨o,e,fun v z=>by rw[d]at z;cases z⟩
  keep:=fun i h h' st k=>let ⟨o,ho,r⟩:=st;⟨o,k it (by simp) o ho,r⟩
  item:=by
   intro X hP hw hK hc i pins s σ H E I hf st hg
   subst hP hw hK
   obtain⟨f0,f1,f2,f3,f4,f5⟩:=hf it (by simp)
   refine (W (I.ok.hd hc)).item i s _ _ hg st fun v h' tk hv st' kk=>?_
   obtain⟨c,u,hc',rfl⟩:=hv
   have I1:Inv X pins σ H { s with heap:=h',toks:=tk }:=I.turned (fun b o hb e=>kk b o (by simpa using hb) e) f0 f1 f3 f4 f5
   obtain⟨o,e,c1,d⟩:=id st'
   exact⟨_,rfl,Sr (s:={ s with heap:=h',toks:=tk }) e c1 d hty ⟨.str ⟨#[c]⟩,H,I1,⟨_,rfl⟩,⟨rfl,c,hc',rfl⟩,st',fun b hb=>(hf b hb).1⟩⟩
  done:=by
   intro X hP hw hK hc i pins s σ H E I hf st hg
   subst hP hw hK
   obtain⟨f0,f1,f2,f3,f4,f5⟩:=hf it (by simp)
   have hg:z.cps.size=i:=hg
   subst hg
   exact (W (I.ok.hd hc)).done s _ _ st fun h' tk kk=>⟨rfl,I.turned (fun b o hb e=>kk b o (by simpa using hb) e) f0 f1 f3 f4 f5⟩
  self:=fun A i s Q E st h=>by
   obtain⟨o,e,c,d⟩:=id st
   unfold strIterType at st
   split at st
   ·exact wpAny_pyIter_striter_ascii st h
   ·exact wpAny_pyIter_striter_wide st h }
section
variable {X:Cx}{tg:Expr}
noncomputable def Sb (tl:TE):TI:=fun σ H R=>tl σ H fun x H1=>∃ z,x=.str z/\R (Its z) H1
theorem Za9 {l:Expr}{tl:TE}(hl:PE X l tl):PI X tg l (Sb tl):=by
 intro pins s σ H R I h;refine thn (hl pins s σ H _ I h) fun v s1 ⟨x,H1,I1,r1,q1⟩=>?_;obtain⟨z,e,q⟩:=q1;subst e;obtain⟨t,rfl⟩:=r1;refine wpAny_pyIter_strU ?_;refine⟨s1.heap.objs.size,[s1.heap.objs.size],_,_,H1,rfl,I1.kept (t':=s1.toks) fun b o e=>Y02 _ e,Zdm _ z t,⟨_,Y06 _ rfl,rfl,rfl⟩,fun b hb=>?_,q⟩;have e:b=s1.heap.objs.size:=by simpa using hb
 subst e;exact I1.fpOk (Y04 _) (I1.hok.fresh (Y04 _))
theorem Z7F:∀ {zs:List Str} {us:List Value},ZT (zs.map V.str) us->StrsAre us zs
 | [],_,.nil=>.nil
 | z::zs,_,.cons ⟨t,e⟩ r=>by subst e;exact .cons z t (Z7F r)
theorem Z4f:∀ {l:List (Str×Tok)} ,ZT ((l.map (·.1)).map V.str) (strValues l)
 | []=>.nil
 | (x,t)::l=>.cons ⟨t,rfl⟩ Z4f
def WV (K:Y00):V->List V->Hp->VK->Prop:=fun x vs H Q=>∃ z p zs,x=.str z/\vs=[.ref p]/\(SqL K H p (zs.map V.str)\/SqT K H p (zs.map V.str))/\(zs.map (·.length)).sum+zs.length*z.length<=16777216/\Q (.str (Txt.join z zs)) H
theorem Xj:MtM X "str.join" (WV X.K):=by
 intro pins s σ H x vs v us Q I rx rv h;obtain⟨z,p,zs,rfl,rfl,hS,hz,q⟩:=h;obtain⟨t,rfl⟩:=rx;obtain⟨u,rfl,ru⟩:=rv.one;cases ru;rcases hS with hS|hS
 ·obtain⟨its,rv,pl,_⟩:=I.list hS;exact join_list pl.isList (by simpa using Z7F rv) hz fun t' k=>⟨.str (Txt.join z zs),H,I.tok k,⟨_,rfl⟩,q⟩
 ·obtain⟨its,rv,pl,_⟩:=I.tuple hS;exact join_tuple pl (by simpa using Z7F rv) hz fun t' k=>⟨.str (Txt.join z zs),H,I.tok k,⟨_,rfl⟩,q⟩
def Zhn:V->List V->Hp->VK->Prop:=fun x vs H Q=>∃ z y,x=.str z/\vs=[.str y]/\0<y.length/\z.length<=1000000/\∀ l,H l=none->Q (.ref l) (upd H l (.lst ((Txt.split z y).map V.str)))
theorem Z94:MtM X "str.split" Zhn:=by
 intro pins s σ H x vs v us Q I rx rv h;obtain⟨z,y,rfl,rfl,hy,hz,q⟩:=h;obtain⟨t,rfl⟩:=rx;obtain⟨u,rfl,t',rfl⟩:=rv.one;have hline:1000002<=sizeLine:=by decide
 have hocc:(Builtin.Str.partsBetween z (Builtin.Str.occurrences z y 0 z.length (z.length+1)) y.length).length<=sizeLine:=by
  rw[len_partsBetween];have:=StrLaws.occ_length_le z y 0 z.length (z.length+1);lia
 have hne:(y.length==0)=false:=by
  apply Bool.eq_false_iff.mpr;intro e;have:=beq_iff_eq.mp e;lia
 have fin:∀ (l:List (Str×Tok)) (k:Nat),l.map (·.1)=Txt.split z y->l.length<=sizeLine->EP X pins σ Q (.ref s.heap.objs.size) { s with heap:=s.heap.push { cls:=.type "list",data:=.seq (strValues l).toArray },toks:=k }:=fun l k e hl=>by
  have hv:ZT ((Txt.split z y).map V.str) (strValues l):=by rw[<-e];exact Z4f
  exact⟨.ref s.heap.objs.size,_,I.lnew hv (by rw[<-e];simpa using hl),rfl,q _ I.fresh⟩
 cases h1:(decide (z.length<y.length)||decide (Builtin.Str.strKind z<Builtin.Str.strKind y))
 ·cases hf:(Builtin.Str.occurrences z y 0 z.length (z.length+1)).isEmpty
  ·refine call_meets F.slot_str_split (typeIs_str _ _ _) F.entry_str_split (F.args_str_split_2 _ _) (meets_str_split_sep z y t t' h1 hne hf (by lia) hocc) ?_;show wants _ _ _ { s with toks:=_,heap:=s.heap.push { cls:=.type "list",data:=.seq (strsFrom s.toks (Builtin.Str.partsBetween z (Builtin.Str.occurrences z y 0 z.length (z.length+1)) y.length)).toArray } };rw[strsFrom_eq];refine fin (numbered s.toks _) _ ((numbered_texts _ _).trans ((if_neg (ne_true_of_eq_false h1)).trans (if_neg (ne_true_of_eq_false hf))).symm) ?_;have e:=congrArg Y1k (numbered_texts s.toks (Builtin.Str.partsBetween z (Builtin.Str.occurrences z y 0 z.length (z.length+1)) y.length));rw[Y05]at e;rw[e];exact hocc
  ·exact call_meets F.slot_str_split (typeIs_str _ _ _) F.entry_str_split (F.args_str_split_2 _ _) (meets_str_split_not_found z y t t' h1 hne hf) (fin [(z,t)] s.toks ((if_neg (ne_true_of_eq_false h1)).trans (if_pos hf)).symm (by show 1<=sizeLine;decide))
 ·exact call_meets F.slot_str_split (typeIs_str _ _ _) F.entry_str_split (F.args_str_split_2 _ _) (meets_str_split_cannot_occur z y t t' h1) (fin [(z,t)] s.toks (if_pos h1).symm (by show 1<=sizeLine;decide))
def Z89:V->List V->Hp->VK->Prop:=fun x vs H Q=>∃ z y i rest,x=.str z/\vs=[.str y]/\Builtin.Str.occurrences z y 0 z.length 1=i::rest/\Q (.int (i:Nat)) H
theorem Zav:MtM X "str.index" Z89:=by
 intro pins s σ H x vs v us Q I rx rv h;obtain⟨z,y,i,rest,rfl,rfl,ho,q⟩:=h;obtain⟨t,rfl⟩:=rx;obtain⟨u,rfl,t',rfl⟩:=rv.one;exact SC.index ho ⟨.int (i:Nat),H,I.tok _,⟨_,rfl⟩,q⟩
noncomputable def Zja (te:TE):TE:=fun σ H Q=>te σ H fun x H1=>∃ z,x=.str z/\z.length<=sizeLine/\Q (.str z) H1
theorem Zc3 {e:Expr}{te:TE}{pos:Pos}(he:PE X e te):PE X (.FormattedValue e (-1) none pos) (Zja te):=by
 intro pins s σ H Q I h;refine wpAny_FormattedValue_plain (thn (he pins s σ H _ I h) fun v s1 ⟨x,H1,I1,r1,z,e,hz,q⟩=>?_);subst e;obtain⟨t,rfl⟩:=r1;exact wpAny_formatField_str ⟨.str z,H1,I1,⟨_,rfl⟩,q⟩ ⟨.str z,H1,I1.tok _,⟨_,rfl⟩,q⟩ hz
noncomputable def ZaS:List TE->Str->TE
 | [],acc=>fun _ H Q=>Q (.str acc) H
 | t::ts,acc=>fun σ H Q=>t σ H fun x H1=>∃ y,x=.str y/\(acc++y).length<=sizeLine/\ZaS ts (acc++y) σ H1 Q
inductive T8 (X:Cx):List Expr->List TE->Prop
 | nil:T8 X [] []
 | cons {e:Expr} {t:TE} {es:List Expr} {ts:List TE}:PE X e t->T8 X es ts->T8 X (e::es) (t::ts)
theorem Z4g (env:Env):∀ es:List Expr,evalEach es env=es.map fun e=>eval e env
 | []=>rfl
 | e::es=>by
  show eval e env::evalEach es env=_;rw[Z4g env es];rfl
theorem Z8o {pins:List (Addr×Obj)}:∀ {es:List Expr} {ts:List TE} {acc:Str} {s:Shared} {σ:St} {H:Hp} {Q:VK},T8 X es ts->Inv X pins σ H s->acc.length<=sizeLine->ZaS ts acc σ H Q->
  Joins (model X.prog X.w) X.A X.xe (es.map fun e=>eval e X.env) acc (fun out s₁=>out.length<=sizeLine/\EP X pins σ Q (.str out s₁.toks) { s₁ with toks:=s₁.toks+1 }) s
 | [],_,acc,s,σ,H,Q,.nil,I,hz,h=>⟨hz,.str acc,H,I.tok _,⟨_,rfl⟩,h⟩
 | e::es,_,acc,s,σ,H,Q,.cons h1 hr,I,hz,h=>by
  refine thn (h1 pins s σ H _ I h) fun v s1 ⟨x,H1,I1,r1,y,ex,hy,q⟩=>?_;subst ex;obtain⟨t,rfl⟩:=r1;exact⟨y,t,rfl,hy,Z8o hr I1 hy q⟩
theorem Zfe {e1 e2:Expr}{es:List Expr}{ts:List TE}{pos:Pos}(h:T8 X (e1::e2::es) ts):PE X (.JoinedStr (e1::e2::es) pos) (ZaS ts Str.empty):=by
 intro pins s σ H Q I hw;refine wpAny_JoinedStr ?_;rw[Z4g];exact Z8o h I (by decide) hw
end
end L2
namespace Sq
open PySem
noncomputable def sg (k:Nat):Nat:=if k<10 then 48+k else 87+k
noncomputable def txt (l:List Nat):Str:=⟨l.toArray⟩
theorem ZcM:(Str.ofString "0123456789abcdefghijklmnopqrstuvwxyz")=txt ((Y03 36).map sg):=by decide +kernel
theorem ZD (l:List Nat):(txt l).length=l.length:=by simp[txt,Str.length]
theorem Zh (a b:List Nat):txt a++txt b=txt (a++b):=Str.ext' (by rw[Str.cps_append];simp[txt])
theorem VJ (l:List Nat):(txt l).cps.toList=l:=by simp[txt]
theorem Uc (z:Str):txt z.cps.toList=z:=Str.ext' (by simp[txt])
theorem ZfD {a b:List Nat}(h:txt a=txt b):a=b:=by rw[<-VJ a,h,VJ]
theorem UD (c:Nat):(⟨#[c]⟩:Str)=txt [c]:=rfl
theorem S8 (l:List Nat)(i:Nat):(txt l).cps[i]?=l[i]?:=by simp[txt]
theorem VT:(Str.ofString "")=txt []:=by decide +kernel
theorem YD:(Str.ofString " ")=txt [32]:=by decide +kernel
theorem Z9I:∀ l:List Nat,Txt.join (txt []) (l.map fun c=>txt [c])=txt l:=fun l=>by
 show Builtin.Str.glued _ _=_;rw[StrLaws.glued_eq_join]
 induction l with
 | nil=>rfl
 | cons c l ih=>cases l with
  | nil=>rfl
  | cons d l=>
   show txt [c]++txt []++Str.join (txt []) ((d::l).map fun c=>txt [c])=_;rw[ih,Zh,Zh];rfl
theorem ZcD (a b s:List Nat):Txt.join (txt s) [txt a,txt b]=txt (a++s++b):=by
 show Builtin.Str.glued _ _=_;rw[StrLaws.glued_eq_join];show txt a++txt s++txt b=_;rw[Zh,Zh]
noncomputable def YK (c:Nat):List (List Nat)->List Nat
 | []=>[]
 | [x]=>x
 | x::y::r=>x++c::YK c (y::r)
theorem Z63 (c:Nat):∀ ps:List Str,(Str.join (txt [c]) ps).cps.toList=YK c (ps.map (·.cps.toList))
 | []=>rfl
 | [x]=>rfl
 | x::y::r=>by
  show (x++txt [c]++Str.join (txt [c]) (y::r)).cps.toList=_;rw[Str.cps_append,Str.cps_append,Array.toList_append,Array.toList_append,Z63 c (y::r)];simp[YK,txt]
theorem Z5C {c:Nat}:∀ {x y A B:List Nat},c∉x->c∉y->x++c::A=y++c::B->x=y/\A=B
 | [],[],A,B,_,_,h=>⟨rfl,by simpa using h⟩
 | [],b::y,A,B,_,hy,h=>by
  have:c=b:=by simpa using (List.cons.inj h).1
  exact absurd (by simp[this]) hy
 | a::x,[],A,B,hx,_,h=>by
  have:a=c:=by simpa using (List.cons.inj h).1
  exact absurd (by simp[this]) hx
 | a::x,b::y,A,B,hx,hy,h=>by
  obtain⟨e1,e2⟩:=List.cons.inj h;obtain⟨q1,q2⟩:=Z5C (fun z=>hx (Y0r _ z)) (fun z=>hy (Y0r _ z)) e2;exact⟨by rw[e1,q1],q2⟩
theorem Z7w {c:Nat}:∀ {ps qs:List (List Nat)},ps≠[]->qs≠[]->(∀ p∈ps,c∉p)->(∀ p∈qs,c∉p)->YK c ps=YK c qs->ps=qs
 | [],_,h,_,_,_,_=>absurd rfl h
 | _::_,[],_,h,_,_,_=>absurd rfl h
 | [x],[y],_,_,_,_,e=>by show [x]=[y];rw[show x=y from e]
 | [x],y::y2::r,_,_,hp,_,e=>by
  have e:x=y++c::YK c (y2::r):=e;exact absurd (by rw[e];simp) (hp x (by simp))
 | x::x2::r,[y],_,_,_,hq,e=>by
  have e:x++c::YK c (x2::r)=y:=e;exact absurd (by rw[<-e];simp) (hq y (by simp))
 | x::x2::r,y::y2::r',_,_,hp,hq,e=>by
  have e:x++c::YK c (x2::r)=y++c::YK c (y2::r'):=e;obtain⟨e1,e2⟩:=Z5C (hp x (by simp)) (hq y (by simp)) e;rw[e1,Z7w (by simp) (by simp) (fun p h=>hp p (Y0r _ h)) (fun p h=>hq p (Y0r _ h)) e2]
theorem Z8z {c:Nat}{z:List Nat}{qs:List (List Nat)}(h0:qs≠[])(hq:∀ p∈qs,c∉p)(e:YK c qs=z):Txt.split (txt z) (txt [c])=qs.map txt:=by
 have h1:=StrLaws.join_split (txt z) (txt [c]);have h2:=StrLaws.split_free (txt z) c;have h3:1<=(Txt.split (txt z) (txt [c])).length:=PyProof.Rows.split_pos _ _;have h4:=congrArg (fun s:Str=>s.cps.toList) h1;rw[Z63,VJ]at h4;have h5:(Txt.split (txt z) (txt [c])).map (·.cps.toList)=qs:=Z7w (by intro q;rw[List.map_eq_nil_iff]at q;rw[q]at h3;simp at h3) h0 (fun p hp=>by
  obtain⟨s,hs,rfl⟩:=Y0d.mp hp
  exact h2 s hs) hq (h4.trans e.symm)
 rw[<-h5,Y2b];have:(txt ∘ fun s:Str=>s.cps.toList)=id:=funext Uc;rw[this,Y4a]
theorem ZaR {a b:List Nat}(ha:32∉a)(hb:32∉b):Txt.split (txt (a++[32]++b)) (txt [32])=[txt a,txt b]:=by
 rw[Z8z (c:=32) (qs:=[a,b]) (by simp) (by simp[ha,hb]) (by simp[YK])]
 rfl
theorem Zd9 (k:Nat):sg k≠32:=by unfold sg;split<;>omega
theorem Zdl:∀ k∈Y03 36,Builtin.Str.occurrences (txt ((Y03 36).map sg)) (txt [sg k]) 0 36 1=[k]:=by decide +kernel
theorem ZbH:(txt ((Y03 36).map sg)).length=36:=by decide +kernel
theorem Zb1 {k:Nat}(h:k<36):(txt ((Y03 36).map sg)).cps[k]?=some (sg k):=by
 rw[S8,Y0l,Y21 h];rfl
noncomputable def ZL (r:List Nat):List Nat:=r.map sg
theorem Tn (r:List Nat):32∉ZL r:=fun h=>by
 obtain⟨k,_,e⟩:=Y0d.mp h;exact Zd9 k e
theorem YX (r:List Nat):(ZL r).length=r.length:=by simp[ZL]
end Sq
namespace K1
open PySem L2 Sq
noncomputable abbrev SG:Str:="0123456789abcdefghijklmnopqrstuvwxyz"
theorem Sw:SG=txt ((Y03 36).map sg):=ZcM
theorem Wp:SG.length=36:=by rw[Sw];exact ZbH
theorem SQ {k:Nat}(h:k<36):atI SG.cps.toList (k:Int)=some (sg k):=by
 refine ZV ?_;have:=Zb1 h;rw[<-Sw]at this;rw[<-this];simp
noncomputable def tv (l:List Nat):List V:=l.map fun c=>V.str (txt [c])
theorem Zg9 (l:List Nat):(tv l).length=l.length:=by simp[tv]
theorem Zgc {l:List Nat}{i c:Nat}(h:l[i]?=some c):(tv l)[i]?=some (.str (txt [c])):=by simp[tv,h]
theorem ZeI (l:List Nat):tv l=(l.map fun c=>txt [c]).map V.str:=by simp[tv]
theorem Zhw (l:List Nat):((l.map fun c=>txt [c]).map (·.length)).sum=l.length:=by
 induction l with
 | nil=>rfl
 | cons c l ih=>simp only[Y0w,List.sum_cons,Y0f,ih,ZD];simp;omega
theorem Z6C {K:Y00}{H:Hp}{d:Addr}{l:List Nat}{Q:VK}(h:H d=some (.lst (tv l)))(hn:l.length<=1000)(q:Q (.str (txt l)) H):WV K (.str (Str.ofString "")) [.ref d] H Q:=by
 refine⟨_,d,l.map fun c=>txt [c],rfl,rfl,.inl (SqL.of (by rw[<-ZeI];exact h)),?_,?_⟩
 ·rw[Zhw,Y05,VT,ZD];simp;omega
 ·rw[VT,Z9I];exact q
theorem Z7p {K:Y00}{Hc:Hp}{p:Addr}{r:List Nat}{j:Nat}{pull:List Nat}{tz:TE}{Q:VK}{σ:St}(hj:σ[j]?=some (some (.ref p)))(hp:SqT K Hc p (nv r)\/SqL K Hc p (nv r))(hr:∀ x∈r,x<36)(hn:r.length<=1000)
  (hz:∀ o H Q,Q (.str SG) H->tz (o::(bst 1 pull σ).tail) H Q)
  (k:∀ (H':Hp) (d:Addr),Z7 Hc H'->H' d=some (.lst (tv (ZL r)))->Q (.ref d) H') :
  YO (fun σ H R=>WS K (ZW j) σ H R\/Yr K (ZW j) σ H R) 1 pull (ZC 0) (tOp Xd tz (ZW 0)) σ Hc Q:=by
 have core:∀ (J:It),(∀ H3,Z7 Hc H3->(∀ i (hi:i<r.length),J.go i H3/\∀ x H2,J.yld i H3 x H2->H2=H3/\x=.int (r[i]:Int))/\J.stop r.length H3)->∀ d,Hc d=none->
   ∃ W:Nat->Nat->St->Hp->Prop,(∃ m,W 0 m (bst 1 pull σ) (upd Hc d (.lst [])))/\∀ i m σ' H',W i m σ' H'->
    (J.stop i H'/\Q (.ref d) H')\/(J.go i H'/\∀ x H2,J.yld i H' x H2->ZC 0 x σ' H2 fun σ3 H3=>tOp Xd tz (ZW 0) σ3 H3 fun y H4=>∃ xs,H4 d=some (.lst xs)/\xs.length<sizeLine/\∃ m',m'<m/\W (i+1) m' σ3 (upd H4 d (.lst (xs++[y])))):=by
  intro J hJ d hd;refine YR (Q:=fun d H'=>Q (.ref d) H') r.length (tv (ZL r)) (by rw[Zg9,YX]) (fun i σ' H3=>∃ o,σ'=o::(bst 1 pull σ).tail/\Z7 Hc H3) ⟨none,rfl,Z4 (Z7.refl _) hd⟩ ?_ ?_
  ·rintro i σ' H3 hi ⟨o,rfl,s3⟩ hd3;obtain⟨g1,g2⟩:=(hJ H3 s3).1 i hi;refine⟨g1,fun x H4 hy=>?_⟩;obtain⟨e1,e2⟩:=g2 x H4 hy;subst e1 e2;have hlt:=hr _ (Y15 hi);refine hz _ _ _ ⟨_,rfl,_,_,sg r[i],rfl,rfl,by rw[Wp];decide,SQ hlt,YN hi hn hd3 (Zgc ?_) ⟨_,rfl,Z4 s3 hd⟩⟩;unfold ZL;rw[Y0l,Y01 hi];rfl
  ·rintro σ' H3 ⟨o,rfl,s3⟩ hd3;exact⟨(hJ H3 s3).2,k H3 d s3 hd3⟩
 rcases hp with h|h
 ·refine .inl ⟨_,hj,p,rfl,⟨_,h⟩,core _ fun H3 s3=>⟨fun i hi=>⟨⟨_,_,Z7.tseq s3 h,Zy (Y01 hi)⟩,fun x H2 ⟨e,hy⟩=>⟨e,?_⟩⟩,⟨_,Z7.tseq s3 h,by rw[ZQ];exact Y04 _⟩⟩⟩;have:=hy _ (Z7.tseq s3 h);rw[Zy (Y01 hi)]at this;exact (Option.some.inj this).symm
 ·refine .inr ⟨_,hj,p,rfl,⟨_,h⟩,core _ fun H3 s3=>⟨fun i hi=>⟨⟨_,_,s3.seq h,Zy (Y01 hi)⟩,fun x H2 ⟨e,hy⟩=>⟨e,?_⟩⟩,⟨_,s3.seq h,by rw[ZQ];exact Y04 _⟩⟩⟩;have:=hy _ (s3.seq h);rw[Zy (Y01 hi)]at this;exact (Option.some.inj this).symm
theorem PI.or' {X:Cx}{tg iter:Expr}{w1 w2:TI}(h1:PI X tg iter w1)(h2:PI X tg iter w2):PI X tg iter (fun σ H R=>w1 σ H R\/w2 σ H R):=by
 intro pins s σ H R I h;rcases h with h|h
 ·exact h1 pins s σ H R I h
 ·exact h2 pins s σ H R I h
def Z7l (K:Y00):Sp:=fun vs H Q _=>∃ (p:Addr) (r:List Nat),vs=[.ref p]/\(SqT K H p (nv r)\/SqL K H p (nv r))/\(∀ x∈r,x<36)/\r.length<=1000/\∀ H':Hp,Z7 H H'->Q (.str (txt (ZL r))) H'
noncomputable def YC (z:List Nat):Bool:=decide (1<=z.length)&&decide (z.length<=36)&&z.all fun c=>decide (c∈(Y03 36).map sg)
def Z8x:Sp:=fun vs H Q _=>∃ z:List Nat,vs=[.str (txt z)]/\z.length<=1000/\∀ H':Hp,Z7 H H'->Q (.bl (YC z)) H'
noncomputable def SE:List (List Nat)->Bool
 | [a,b]=>decide (a.length=b.length)&&YC a&&YC b
 | _=>false
noncomputable def wv (ws:List (List Nat)):List V:=ws.map fun z=>V.str (txt z)
def Z8l (K:Y00):Sp:=fun vs H Q _=>∃ (p:Addr) (ws:List (List Nat)),vs=[.ref p]/\SqL K H p (wv ws)/\(∀ z∈ws,z.length<=1000)/\∀ H':Hp,Z7 H H'->Q (.bl (SE ws)) H'
def Z4K:Sp:=fun vs H Q _=>∃ r:List Nat,vs=[.str (txt (ZL r))]/\(∀ x∈r,x<36)/\r.length<=1000/\∀ (H':Hp) (l:Addr),Z7 H H'->H l=none->H' l=some (.lst (nv r))->Q (.ref l) H'
theorem Zhu {K:Y00}{Hc:Hp}{z:List Nat}{j:Nat}{Q:VK}{σ:St}(hj:σ[j]?=some (some (.str (txt z))))(hn:z.length<=1000)
  (k:∀ (H':Hp) (d:Addr),Z7 Hc H'->H' d=some (.lst ((z.map fun c=>decide (c∈(Y03 36).map sg)).map V.bl))->Q (.ref d) H') :
  YO (Sb (ZW j)) 1 [] (ZC 0) (tOp (fun x y H Q=>∃ i j,x=.str i/\y=.str j/\Q (.bl (!(Builtin.Str.occurrences j i 0 j.length 1).isEmpty)) H) (ZW 0) (tC (.str SG))) σ Hc Q:=by
 refine⟨_,hj,txt z,rfl,fun d hd=>?_⟩;refine YR (Q:=fun d H'=>Q (.ref d) H') z.length ((z.map fun c=>decide (c∈(Y03 36).map sg)).map V.bl) (by simp) (fun i σ H3=>∃ o,σ=[o]/\Z7 Hc H3) ⟨none,rfl,Z4 (Z7.refl _) hd⟩ ?_ ?_
 ·rintro i σ H3 hi ⟨o,rfl,s3⟩ hd3;refine⟨by show i<(txt z).length;rw[ZD];exact hi,fun y H4 ⟨e,c,hc,ey⟩=>?_⟩;subst e ey;rw[S8]at hc;refine⟨_,rfl,_,_,rfl,rfl,YN hi hn hd3 ?_ ⟨_,rfl,Z4 s3 hd⟩⟩;rw[StrLaws.found_one,Sw,VJ];simp[hc]
 ·rintro σ H3 ⟨o,rfl,s3⟩ hd3;exact⟨by show (txt z).length=_;rw[ZD],k H3 d s3 hd3⟩
theorem Zce {K:Y00}{Hc:Hp}{r:List Nat}{j:Nat}{Q:VK}{σ:St}(hj:σ[j]?=some (some (.str (txt (ZL r)))))(hr:∀ x∈r,x<36)(hn:r.length<=1000)
  (k:∀ (H':Hp) (d:Addr),Z7 Hc H'->Hc d=none->H' d=some (.lst (nv r))->Q (.ref d) H') :
  YO (Sb (ZW j)) 1 [] (ZC 0) (tBM K "str" Z89 (tC (.str SG)) (ZM (ZW 0) Zx)) σ Hc Q:=by
 refine⟨_,hj,txt (ZL r),rfl,fun d hd=>?_⟩;refine YR (Q:=fun d H'=>Q (.ref d) H') r.length (nv r) (ZQ r) (fun i σ H3=>∃ o,σ=[o]/\Z7 Hc H3) ⟨none,rfl,Z4 (Z7.refl _) hd⟩ ?_ ?_
 ·rintro i σ H3 hi ⟨o,rfl,s3⟩ hd3;refine⟨by show i<(txt _).length;rw[ZD,YX];exact hi,fun y H4 ⟨e,c,hc,ey⟩=>?_⟩;subst e ey;rw[S8]at hc;have hc:c=sg r[i]:=by
   unfold ZL at hc;rw[Y0l,Y01 hi]at hc;exact (Option.some.inj hc).symm
  subst hc;have hlt:=hr _ (Y15 hi);refine⟨rfl,_,rfl,SG,txt [sg r[i]],r[i],[],rfl,rfl,?_,YN hi hn hd3 (Zy (Y01 hi)) ⟨_,rfl,Z4 s3 hd⟩⟩;rw[Wp,Sw];exact Zdl _ (Y08.mpr hlt)
 ·rintro σ H3 ⟨o,rfl,s3⟩ hd3;exact⟨by show (txt _).length=_;rw[ZD,YX],k H3 d s3 hd hd3⟩
section
variable {P:Program}{w:World}{K:Y00}{mg:Str->Option Value}{base:Heap}
theorem ZbG:ZO ["row"] ["row"] (Z0 VP):=⟨rfl,rfl,rfl,by decide +kernel,rfl,by decide +kernel,by decide +kernel⟩
theorem ndSq:(["square"]:List Str).Nodup:=by decide +kernel
theorem ndSi:(["sign"]:List Str).Nodup:=by decide +kernel
theorem Z9W {f:Addr}{fd:FuncData}{tS:Tok}(hS:mg "SIGNS"=some (.str SG tS))(F:Fn K mg "signs_of" VP ["row"] f fd):Z6 P w K mg base CX0 1 f fd ["row"] (Z7l K):=by
 refine F.F.ok ZbG (fun vs H Q E h=>?_) (fun cdv A outer s H vs Q E hr h=>?_)
 ·obtain⟨p,r,rfl,_⟩:=h;rfl
 ·obtain⟨p,r,rfl,hp,hlt,hn,k⟩:=h;refine⟨_,Z1 (ZS (Zg PySem.F.plainAttrs_str PySem.F.slot_str_join PySem.F.type_str_join Xj ZH (Z9
   (Y6 (N:=["row"]) (names:=(Z0 VP).names) (N':=["square"]) (k:=1) (pull:=[]) (te:=tOp Xd (tC (.str SG)) (ZW 0)) rfl
    ⟨by rfl,by decide +kernel,by decide +kernel,by rfl,by decide +kernel,by decide +kernel⟩ rfl rfl (PI.or' (XQ (pv 0)) (Y5 (pv 0))) (fun _ _ _ _ _ _=>ZE (i:=0) ndSq rfl (Or.inl rfl))
    (fun _ _ _ _ _ _=>ZY Vt (X6 (v:=.str SG) (by rfl) hS ⟨_,rfl⟩) (pv 0) (fun _ _=>rfl))) Z8))),?_⟩
  refine⟨rfl,?_⟩;dsimp only [ZM,Zx];refine Z7p rfl hp hlt hn (fun _ _ _ q=>q) fun H1 d s1 hd=>?_;exact Z6C hd (by rw[YX];exact hn) (k H1 s1)
theorem ZdJ:ZO ["word"] ["word"] (Z0 VG):=⟨rfl,rfl,rfl,by decide +kernel,rfl,by decide +kernel,by decide +kernel⟩
theorem W2 {n:Nat}(h:n<=1000):n<=sizeLine:=Y14 (Zj h)
theorem Z9p {α:Type}(p:α->Bool)(l:List α):(l.map p).all id=l.all p:=by rw[List.all_map];rfl
theorem ZbW {f:Addr}{fd:FuncData}{tS:Tok}(T:Bi mg)(hS:mg "SIGNS"=some (.str SG tS))(F:Fn K mg "is_word" VG ["word"] f fd):Z6 P w K mg base CX0 1 f fd ["word"] Z8x:=by
 refine F.F.ok ZdJ (fun vs H Q E h=>?_) (fun cdv A outer s H vs Q E hr h=>?_)
 ·obtain⟨z,rfl,_⟩:=h;rfl
 ·obtain⟨z,rfl,hn,k⟩:=h;refine⟨_,Z1 (ZS (XN (Z6h Wi Wi Z3 (ZF U4 (by rfl) T.len PySem.boot_len (Z9 (pv 0) Z8)) (ZF U4 (by rfl) T.len PySem.boot_len (Z9 (X6 (v:=.str SG) (by rfl) hS ⟨_,rfl⟩) Z8)))
   (WY (ZF (U8 rfl) (by rfl) T.all US (Z9
   (Y6 (N:=["word"]) (names:=(Z0 VG).names) (N':=["sign"]) (k:=1) (pull:=[]) (te:=tOp (fun x y H Q=>∃ i j,x=.str i/\y=.str j/\Q (.bl (!(Builtin.Str.occurrences j i 0 j.length 1).isEmpty)) H) (ZW 0) (tC (.str SG))) rfl
    ⟨by rfl,by decide +kernel,by decide +kernel,by rfl,by decide +kernel,by decide +kernel⟩ rfl rfl (Za9 (pv 0)) (fun _ _ _ _ _ _=>ZE (i:=0) ndSi rfl (Or.inl rfl))
    (fun _ _ _ _ _ _=>Ym Z7A (pv 0) (X6 (v:=.str SG) (by rfl) hS ⟨_,rfl⟩) (by with_unfolding_all rfl))) Z8))))),?_⟩
  refine⟨_,rfl,_,rfl,by rw[ZD];exact W2 hn,_,_,rfl,rfl,_,rfl,?_⟩;rw[ZD];have k':∀ b,YC z=b->∀ H',Z7 H H'->Q (.bl b) H':=fun b e H' s'=>by rw[<-e];exact k H' s'
  refine Yv (fun h1=>?_) (fun h1=>?_)
  ·have h1:(1:Int)<=(z.length:Int):=of_decide_eq_true h1;refine⟨_,rfl,by rw[Wp];decide,_,_,rfl,rfl,_,rfl,?_⟩;rw[Wp];refine Yv (fun h2=>?_) (fun h2=>?_)
   ·have h2:(z.length:Int)<=((36:Nat):Int):=of_decide_eq_true h2;dsimp only [tCB,ZM,Zx];refine Zhu (K:=K) rfl hn fun H1 d s1 hd=>?_;refine⟨d,_,rfl,SqL.of hd,k' _ ?_ H1 s1⟩;unfold YC;rw[decide_eq_true (show 1<=z.length by omega),decide_eq_true (show z.length<=36 by omega),Z9p];rfl
   ·have h2:¬ (z.length:Int)<=((36:Nat):Int):=fun e=>h2 (decide_eq_true e);refine k' false ?_ H (Z7.refl H);unfold YC;rw[decide_eq_false (show ¬ z.length<=36 by omega)];simp
  ·have h1:¬ (1:Int)<=(z.length:Int):=fun e=>h1 (decide_eq_true e);refine⟨_,rfl,?_⟩;refine ZG ?_;refine k' false ?_ H (Z7.refl H);unfold YC;rw[decide_eq_false (show ¬ 1<=z.length by omega)];simp
theorem Zde:ZO ["words"] ["words"] (Z0 Us):=⟨rfl,rfl,rfl,by decide +kernel,rfl,by decide +kernel,by decide +kernel⟩
theorem ZhE (ws:List (List Nat)):(wv ws).length=ws.length:=by simp[wv]
theorem ZaK {f fw:Addr}{fd fdw:FuncData}(T:Bi mg)(F:Fn K mg "is_pair" Us ["words"] f fd)(FW:Fn K mg "is_word" VG ["word"] fw fdw)(GW:Z6 P w K mg base CX0 1 fw fdw ["word"] Z8x) :
  Z6 P w K mg base CX0 2 f fd ["words"] (Z8l K):=by
 refine F.F.ok Zde (fun vs H Q E h=>?_) (fun cdv A outer s H vs Q E hr h=>?_)
 ·obtain⟨p,ws,rfl,_⟩:=h;rfl
 ·obtain⟨p,ws,rfl,hp,hn,k⟩:=h;refine⟨_,Z1 (ZS (XN (Ym Ze (ZF Zk (by rfl) T.len PySem.boot_len (Z9 (pv 0) Z8)) Z3 (Zw _))
   (XN (Ym Ze (ZF U4 (by rfl) T.len PySem.boot_len (Z9 (ZY Zs (pv 0) Z3 (fun _ _=>rfl)) Z8)) (ZF U4 (by rfl) T.len PySem.boot_len (Z9 (ZY Zs (pv 0) Z3 (fun _ _=>rfl)) Z8)) (Zw _))
   (XN (ZU GW hr rfl FW.m FW.F.kp FW.b .nil ZX (Z9 (ZY Zs (pv 0) Z3 (fun _ _=>rfl)) Z8))
   (WY (ZU GW hr rfl FW.m FW.F.kp FW.b .nil ZX (Z9 (ZY Zs (pv 0) Z3 (fun _ _=>rfl)) Z8))))))),?_⟩
  refine⟨_,rfl,p,_,rfl,.inl hp,rfl,_,rfl,?_⟩;have k':∀ b,SE ws=b->∀ H',Z7 H H'->Q (.bl b) H':=fun b e H' s'=>by rw[<-e];exact k H' s'
  refine Yv (fun h1=>?_) (fun h1=>?_)
  ·have h1:ws.length=2:=by
    have:=V.int.inj (of_decide_eq_true h1);rw[ZhE]at this;omega
   obtain⟨a,b,rfl⟩:=len2 h1;have ha:=hn a (by simp);have hb:=hn b (by simp);refine⟨_,rfl,p,_,0,_,rfl,rfl,hp,ZV (j:=0) rfl,_,rfl,by rw[ZD];exact W2 ha,_,rfl,p,_,1,_,rfl,rfl,hp,ZV (j:=1) rfl,_,rfl,by rw[ZD];exact W2 hb,rfl,_,rfl,?_⟩;rw[ZD,ZD];refine Yv (fun h2=>?_) (fun h2=>?_)
   ·have h2:a.length=b.length:=(by have:=V.int.inj (of_decide_eq_true h2);omega);refine⟨_,rfl,p,_,0,_,rfl,rfl,hp,ZV (j:=0) rfl,a,rfl,ha,fun H1 s1=>?_⟩;refine⟨_,rfl,?_⟩;refine Yv (fun h3=>?_) (fun h3=>?_)
    ·refine⟨_,rfl,p,_,1,_,rfl,rfl,s1.seq hp,ZV (j:=1) rfl,b,rfl,hb,fun H2 s2=>?_⟩;refine k' _ ?_ H2 (s1.trans s2);show (decide (a.length=b.length)&&YC a&&YC b)=_;rw[decide_eq_true h2,h3];rfl
    ·refine k' false ?_ H1 s1;show (decide (a.length=b.length)&&YC a&&YC b)=_;rw[Bool.not_eq_true]at h3;rw[h3];simp
   ·have h2:¬ a.length=b.length:=fun e=>h2 (by rw[e];exact decide_eq_true rfl);refine k' false ?_ H (Z7.refl H);show (decide (a.length=b.length)&&YC a&&YC b)=_;rw[decide_eq_false h2];simp
  ·refine k' false ?_ H (Z7.refl H);unfold SE
   split
   ·rename_i a b;exact absurd (decide_eq_true (by rfl)) h1
   ·rfl
theorem Z7Z:ZO ["word"] ["word"] (Z0 V5):=⟨rfl,rfl,rfl,by decide +kernel,rfl,by decide +kernel,by decide +kernel⟩
theorem Z7b {f:Addr}{fd:FuncData}{tS:Tok}(hS:mg "SIGNS"=some (.str SG tS))(F:Fn K mg "squares_of" V5 ["word"] f fd):Z6 P w K mg base CX0 1 f fd ["word"] Z4K:=by
 refine F.F.ok Z7Z (fun vs H Q E h=>?_) (fun cdv A outer s H vs Q E hr h=>?_)
 ·obtain⟨r,rfl,_⟩:=h;rfl
 ·obtain⟨r,rfl,hlt,hn,k⟩:=h;refine⟨_,Z1 (ZS (Y6 (N:=["word"]) (names:=(Z0 V5).names) (N':=["sign"]) (k:=1) (pull:=[]) (te:=tBM K "str" Z89 (tC (.str SG)) (ZM (ZW 0) Zx)) rfl
    ⟨by rfl,by decide +kernel,by decide +kernel,by rfl,by decide +kernel,by decide +kernel⟩ rfl rfl (Za9 (pv 0)) (fun _ _ _ _ _ _=>ZE (i:=0) ndSi rfl (Or.inl rfl))
    (fun _ _ _ _ _ _=>Zg PySem.F.plainAttrs_str PySem.F.slot_str_index PySem.F.type_str_index Zav (X6 (v:=.str SG) (by rfl) hS ⟨_,rfl⟩) (Z9 (pv 0) Z8)))),?_⟩
  exact Zce rfl hlt hn fun H1 d s1 h0 hd=>k H1 d s1 h0 hd
end
end K1
namespace L2
open PySem PySem.Spec PyProof.Rows
def Vc (B:Heap)(e:Addr)(C:Value)(d:Option Addr)(h:Heap):Prop:=
 ∃ oe vs,h.get? e=some oe/\oe.cls=C/\oe.dict=d/\oe.data=.fields vs/\vs[2]?=some .none/\(vs[1]?=some .none\/∃ T oT ts fl,vs[1]?=some (.ref T)/\B.get? T=none/\T≠e/\h.get? T=some oT/\oT.data=.fields ts/\ts[3]?=some fl)
def WR (B:Heap)(e:Addr)(C:Value)(d:Option Addr)(fl:Value)(h:Heap):Prop:=
 ∃ oe vs T oT ts,h.get? e=some oe/\oe.cls=C/\oe.dict=d/\(oe.data=.fields vs/\vs[2]?=some .none)/\vs[1]?=some (.ref T)/\B.get? T=none/\T≠e/\h.get? T=some oT/\oT.data=.fields ts/\ts[3]?=some fl
theorem WR.at {B h:Heap}{e:Addr}{C fl:Value}{d:Option Addr}(x:WR B e C d fl h):Vc B e C d h:=by
 obtain⟨oe,vs,T,oT,ts,h1,h2,h3,h4,h5,h6,h7,h8,h9,h10⟩:=x;exact⟨oe,vs,h1,h2,h3,h4.1,h4.2,.inr ⟨T,oT,ts,fl,h5,h6,h7,h8,h9,h10⟩⟩
structure Air (B:Heap)(l:List Env)(e:Addr)(h:Heap):Prop where
 stays:B.StaysIn h
 new:B.get? e=none
 frames:h.FunFrames B l
section
variable {M:Model}{A:Around}{E:Value->Shared->Prop}{s:Shared}
theorem Z5u (o:Obj)(f:Array Value->Array Value):(o.mapFields f).dict=o.dict:=by
 obtain⟨c,d,dt,sl⟩:=o;cases dt<;>rfl
theorem Z6Y {B:Heap}{env:Env}{outer:List Env}{L e:Addr}{oe:Obj}{vs:Array Value}{head:Value}{had:Bool}{Q:Unit->Shared->Prop}
  (fr:A.frames=some (env::outer)) (fl:env.frame=some L) (a:Air B (env::outer) e s.heap) (he:s.heap.get? e=some oe) (hd:oe.data=.fields vs) (hcx:vs[2]?=some .none)
  (q:∀ h',Air B (env::outer) e h'->WR B e oe.cls oe.dict (rawInt L) h'->s.heap.UpToSlots h'->Q () { s with heap:=h' }) :
  wpAny M A (do let f <-frameOf env;let pl <-entryPlaceOf L had;let b <-EntryCells.newEntry head f .none (rawInt L) .none pl;setField (.ref e) 1 b) Q E s:=by
 have hz2:2<vs.size:=(Y3y.mp hcx).1;have hz:1<vs.size:=by omega
 have nfr:e∉(env::outer).filterMap (·.frame):=fun z=>by
  obtain⟨_,o,ho,hn⟩:=a.frames.mem z;rw[he]at ho;cases ho;exact hn vs hd
 refine wpAny_bind (wpAny_frameOf_fun fr a.frames fl fun h1 so=>?_);refine wpAny_bind (wpAny_entryPlaceOf fun pl hpl=>?_);unfold EntryCells.newEntry newFields;refine wpAny_bind (wpAny_newObj_type ?_ (hpl.sizeOk5 _ _ _ _ _));have he1:h1.get? e=some oe:=by rw[so.2.1 e nfr];exact he
 have st1:B.StaysIn h1:=fun b o hb=>by
  rw[so.2.1 b fun z=>by rw[(a.frames.mem z).1]at hb;cases hb];exact a.stays b o hb
 generalize hrec:({ cls:=.type "traceback",dict:=none,data:=.fields ([head,.ref L,.none,rawInt L,.none]++(if pl.isEmpty then Y0p 6 Value.none else pl)).toArray }:Obj)=rec;have rdat:∃ ts:Array Value,rec.data=.fields ts/\ts[3]?=some (rawInt L):=by
  refine⟨([head,.ref L,.none,rawInt L,.none]++(if pl.isEmpty then Y0p 6 Value.none else pl)).toArray,by rw[<-hrec],?_⟩;simp
 obtain⟨ts,rd,r3⟩:=rdat;have he2:=Y02 (h:=h1) rec he1;refine wpAny_setField he2 hd hz ?_;have nT:h1.objs.size≠e:=Y2e (Y0a he1);have dat3:=Obj.data_mapFields hd (·.setIfInBounds 1 (Value.ref h1.objs.size));have he3:=Y27 (Obj.mapFields (·.setIfInBounds 1 (Value.ref h1.objs.size))) he2 (Obj.isFreed_of_fields dat3);have rnf:rec.isFreed=false:=Obj.isFreed_of_fields rd;have hT3:((h1.push rec).update e (Obj.mapFields (·.setIfInBounds 1 (Value.ref h1.objs.size)))).get? h1.objs.size=some rec:=by
  rw[Y1f _ _ (Ne.symm nT)];exact Y06 h1 rnf
 have keep:∀ b o,b≠e->h1.get? b=some o->((h1.push rec).update e (Obj.mapFields (·.setIfInBounds 1 (Value.ref h1.objs.size)))).get? b=some o:=fun b o nb hb=>by
  rw[Y1f _ _ (Ne.symm nb)];exact Y02 _ hb
 have nrec:∀ b o,s.heap.get? b=some o->(∀ ws,o.data≠.fields ws)->b≠e:=fun b o hb hn z=>by
  rw[z,he]at hb;cases hb;exact hn vs hd
 refine q _ ⟨fun b o hb=>keep b o (fun z=>by rw[z,a.new]at hb;cases hb) (st1 b o hb),a.new,a.frames.of_keeps fun b o hb hn=>?_⟩ ?_ fun b o hb hn=>?_
 ·obtain⟨sl,e1⟩:=so.2.2 b o hb;exact⟨_,keep b _ (nrec b o hb hn) e1,rfl⟩
 ·refine⟨_,_,h1.objs.size,rec,ts,he3,Obj.cls_mapFields _ _,Z5u _ _,⟨dat3,by rw[Array.getElem?_setIfInBounds_ne (by decide)];exact hcx⟩,by simp[hz],st1.fresh,nT,hT3,rd,r3⟩
 ·obtain⟨sl,e1⟩:=so.2.2 b o hb;exact⟨sl,keep b _ (nrec b o hb hn) e1⟩
theorem Z8P {B:Heap}{l:List Env}{e T:Addr}{oe oT:Obj}{vs ts:Array Value}{fl v:Value}(a:Air B l e s.heap)(he:s.heap.get? e=some oe)(hd:oe.data=.fields vs)(hcx:vs[2]?=some .none)(h1:vs[1]?=some (.ref T))(nT:B.get? T=none)(nTe:T≠e)
  (hT:s.heap.get? T=some oT) (hdT:oT.data=.fields ts) (h3:ts[3]?=some fl) {Q:Unit->Shared->Prop}
  (q:∀ h',Air B l e h'->h'.get? e=some oe->WR B e oe.cls oe.dict v h'->s.heap.UpToSlots h'->Q () { s with heap:=h' }):wpAny M A (setField (.ref T) 3 v) Q E s:=by
 have z3:3<ts.size:=(Y3y.mp h3).1;have other:∀ b,b≠T->(s.heap.update T (Obj.mapFields (·.setIfInBounds 3 v))).get? b=s.heap.get? b:=fun b nb=>Y1f _ _ (Ne.symm nb);have nrec:∀ b o,s.heap.get? b=some o->(∀ ws,o.data≠.fields ws)->b≠T:=fun b o hb hn z=>by
  rw[z,hT]at hb;cases hb;exact hn ts hdT
 have he':=(other e (Ne.symm nTe)).trans he;refine wpAny_setField hT hdT z3 (q _ ⟨fun b o hb=>?_,a.new,a.frames.of_keeps fun b o hb hn=>⟨o,(other b (nrec b o hb hn)).trans hb,rfl⟩⟩ he' ?_ fun b o hb hn=>⟨o.slots,(other b (nrec b o hb hn)).trans hb⟩)
 ·exact (other b fun z=>by rw[z,nT]at hb;cases hb).trans (a.stays b o hb)
 ·exact⟨oe,vs,T,_,_,he',rfl,rfl,⟨hd,hcx⟩,h1,nT,nTe,Y27 _ hT (Obj.isFreed_of_fields (Obj.data_mapFields hdT _)),Obj.data_mapFields hdT _,by simp[z3]⟩
theorem Z8G {B:Heap}{env:Env}{outer:List Env}{L e:Addr}{C:Value}{d:Option Addr}{Q:Unit->Shared->Prop}(fr:A.frames=some (env::outer))(fl:env.frame=some L)(a:Air B (env::outer) e s.heap)(x:Vc B e C d s.heap)
  (q:∀ h',Air B (env::outer) e h'->WR B e C d (rawInt L) h'->s.heap.UpToSlots h'->Q () { s with heap:=h' }):wpAny M A (noteFrame (.ref e) env) Q E s:=by
 obtain⟨oe,vs,he,rfl,rfl,hd,hz,hv⟩:=x;unfold noteFrame;simp only[fl];rcases hv with hv|⟨T,oT,ts,f0,hv,nT,nTe,hT,hdT,h3⟩
 ·refine wpAny_bind (wpAny_field he hd hv ?_);rw[if_neg (by decide)];exact Z6Y fr fl a he hd hz q
 ·refine wpAny_bind (wpAny_field he hd hv ?_);rw[if_pos (show (Value.ref T != Value.none)=true from by simp)];refine wpAny_bind (wpAny_field hT hdT h3 ?_)
  by_cases e0:(f0==rawInt L)=true
  ·rw[if_pos e0];have e1:f0=rawInt L:=by simpa using e0
   subst e1;exact wpAny_pure (q s.heap a ⟨oe,vs,T,oT,ts,he,rfl,rfl,⟨hd,hz⟩,hv,nT,nTe,hT,hdT,h3⟩ (Heap.UpToSlots.refl _))
  ·rw[if_neg e0];refine wpAny_bind (Z8P a he hd hz hv nT nTe hT hdT h3 fun h1 a1 he1 _ u1=>?_);exact Z6Y (s:={ s with heap:=h1 }) fr fl a1 he1 hd hz fun h2 a2 x2 u2=>q h2 a2 x2 (u1.trans u2)
theorem Z4e {B:Heap}{l:List Env}{e:Addr}{C f0:Value}{d:Option Addr}{o:Option Addr}{Q:Unit->Shared->Prop}(a:Air B l e s.heap)(x:WR B e C d f0 s.heap)
  (q:∀ h',Air B l e h'->WR B e C d (o.elim .none fun f=>rawInt f) h'->s.heap.UpToSlots h'->Q () { s with heap:=h' }):wpAny M A (setFlight (.ref e) o) Q E s:=by
 obtain⟨oe,vs,T,oT,ts,he,rfl,rfl,⟨hd,hcx⟩,hv,nT,nTe,hT,hdT,h3⟩:=x;unfold setFlight;refine wpAny_bind (wpAny_field he hd hv ?_);rw[if_pos (show (Value.ref T != Value.none)=true from by simp)];exact Z8P a he hd hcx hv nT nTe hT hdT h3 fun h' a' _ x' u'=>q h' a' x' u'
theorem Air.tail {B:Heap}{env:Env}{outer:List Env}{e:Addr}{h:Heap}(a:Air B (env::outer) e h):Air B outer e h:=⟨a.stays,a.new,a.frames.2.2⟩
theorem Z7u {B:Heap}{env:Env}{outer:List Env}{L e:Addr}{C:Value}{d:Option Addr}{Q:Unit->Shared->Prop}(fr:A.frames=some (env::outer))(fl:env.frame=some L)(a:Air B (env::outer) e s.heap)(x:Vc B e C d s.heap)
  (q:∀ h',Air B outer e h'->Vc B e C d h'->s.heap.UpToSlots h'->Q () { s with heap:=h' }):wpAny M A (leaving env (.ref e)) Q E s:=by
 unfold leaving;refine wpAny_bind (Z8G fr fl a x fun h1 a1 x1 u1=>?_);exact Z4e (s:={ s with heap:=h1 }) a1 x1 fun h2 a2 x2 u2=>q h2 a2.tail x2.at (u1.trans u2)
end
structure UnB (fs:List Addr)(H H':Hp)(h B h':Heap):Prop where
 keep:∀ b o,h.get? b=some o->H b=none->b∉fs->B.get? b=some o
 slot:∀ b o,h.get? b=some o->H b=none->b∈fs->∃ sl,h'.get? b=some { o with slots:=sl }
 free:∀ b o,h.get? b=some o->H b=none->H' b=none
 there:∀ b o,h.get? b=some o->b∉fs->∃ o',B.get? b=some o'
 tups:∀ b xs,H b=some (.tup xs)->H' b=some (.tup xs)
 frzs:∀ b o u,H b=some (.frz o u)->H' b=some (.frz o u)
 tbls:∀ b ps,H b=some (.tbl ps)->∃ more,H' b=some (.tbl (ps++more))
structure Fly (P:Program)(w:World)(outer:List Env)(H:Hp)(s:Shared)(C:Value)(d:Option Addr)(H':Hp)(e:Addr)(s':Shared):Prop where
 os:s'.os=s.os
 bare:AllBare s'.gens
 ex:∃ B,Air B outer e s'.heap/\Vc B e C d s'.heap/\HOk P w H' B/\UnB (frs outer) H H' s.heap B s'.heap
noncomputable def CX1 (P:Program)(w:World):CXT:=fun outer H s E ev s'=>∃ e C d H',ev=.ref e/\Fly P w outer H s C d H' e s'/\E C d H'
abbrev vE:List Value:=[.type "ValueError",.type "Exception",.type "BaseException",.type "object"]
def Wh (K:Y00)(C:Addr):Prop:=PySem.W.excIn K C vE "ValueError.__new__"=true
theorem Wh.obj {K:Y00}{C:Addr}{h:Heap}(q:Wh K C)(k:K.In h) :
  ∃ bm N nm qn bs hd sn sub ab col dd k0 k1 k2 k3 k5 mN,h.get? C=some (excClassObj nm qn C N bs bm hd sn sub ab col dd k0 k1 k2 k3 k5 "ValueError.__new__")/\h.Ns N mN/\mN "__init__"=none/\OwnTail h vE bm:=by
 unfold Wh PySem.W.excIn at q
 split at q
 ·rename_i dd cd sl ho
  split at q
  ·rename_i C1 bm k0 k1 k2 k3 n k5 hm hs;simp only[Y2p,beq_iff_eq,Bool.not_eq_true']at q;obtain⟨⟨⟨⟨⟨e1,e2⟩,hdel⟩,ht⟩,hok⟩,hni⟩:=q;subst e1 e2;cases cd;dsimp only at hm hdel hok hni;subst hm hdel;have esl:sl=#[k0,k1,k2,k3,some (.builtin "ValueError.__new__"),k5]:=by
    cases sl;simp only at hs;rw[hs]
   subst esl;exact⟨bm,_,_,_,_,_,_,_,_,_,dd,k0,k1,k2,k3,k5,_,k _ _ ho,.of_isNs (PySem.W.isNs_of_in k hok),PySem.W.nsMap_none_of_in k hok hni,PySem.W.tail_of_in k ht⟩
  ·cases q
 ·cases q
def Zee (X:Cx)(E:XK):Prop:=∀ (pins:List (Addr×Obj)) (σ:St) (H:Hp) (s:Shared) (h':Heap) (e:Addr) (C:Value) (args:List Value),Inv X pins σ H s->Heap.MadeExcOf s.heap h' e C args->E C none H->X.xe (.ref e) { s with heap:=h' }
noncomputable def Zgf (ta:TA)(C:Addr)(E:XK):TS:=fun _ σ H=>ta σ H fun vs H1=>vs.length<=sizeLine/\E (.ref C) none H1
section
variable {X:Cx}{x:Str}{C:Addr}{e₀:Expr}{rest:List Expr}{ta:TA}{E:XK}{np cpos pos:Pos}
theorem Zd3 (hc:X.calm=true)(hC:Wh X.K C)(hg:Gl X x)(hm:X.mg x=some (.ref C))(ht:Zee X E)(ha:PA X (e₀::rest) ta)(hdb:(x==("__debug__":Str))=false:=by decide)
  (he:starEach (e₀::rest) X.env=(false,eval e₀ X.env)::starEach rest X.env:=by rfl) (hpl:(backTo cpos (starEach rest X.env)).any (·.1)=false:=by rfl) :
  PS X (.Raise (some (.Call (.Name x np) (e₀::rest) [] cpos)) none pos) (Zgf ta C E):=by
 intro pins s σ H D I h;obtain⟨bm,N,nm,qn,bs,hd,sn,sub,ab,col,dd,k0,k1,k2,k3,k5,mN,oC,nN,ni,TL⟩:=hC.obj I.mod.kin;have FB:=PySem.F.excBase_ValueError;refine wpAny_Raise_call_subT (C:=C) (nm:=nm) (q:=qn) (N:=N) (bs:=bs) (bm:=bm) (hdct:=hd) (sn:=sn) (sub:=sub) (ab:=ab) (col:=col) (dd:=dd) (k0:=k0) (k1:=k1) (k2:=k2) (k3:=k3) (k5:=k5)
  FB (mN:=mN) (TL.hasType FB.hasBase) (I.ok.hd hc) (by rw[he];show (false||(backTo cpos (starEach rest X.env)).any (·.1))=false;rw[hpl];rfl) ni (Wv I hg hm ⟨rfl,?_⟩ hdb)
 have hA:=ha cpos pins s σ H _ I h;rw[he]at hA ⊢;refine Calls.evalArgs_plain (thn hA fun us s2 ⟨vs,H2,I2,r2,hz,q2⟩=>⟨rfl,by rw[<-r2.length];exact hz,I2.bk _ _ oC,nN.keeps I2.bk,TL.keeps I2.bk,fun h' e hm=>ht pins σ H2 s2 h' e _ _ I2 hm q2⟩)
end
theorem ZcV {P:Program}{w:World}{H:Hp}{h:Heap}{l:List Addr}(x:HOk P w H h)(fr:∀ b∈l,H b=none):HOk P w H (Y3r h l):=fun b u e=>by
 refine (x b u e).stay (fun c v hc q=>Y36 _ q fun z=>?_) (fun _ q=>q) fun _ _ q=>q;rcases hc with hc|hc
 ·rw[hc]at z;rw[fr b z]at e;cases e
 ·rw[fr c z]at hc;cases hc
theorem UnB.un {fs:List Addr}{H H':Hp}{h B h':Heap}(u:UnB fs H H' h B h')(st:B.StaysIn h')(fr:∀ b∈fs,H b=none):Un fs [] H H' h h' where
 keep:=fun b o q n hb _=>st _ _ (u.keep b o q n hb)
 slot:=fun b o q n hb _=>u.slot b o q n hb
 free:=fun b o q n _=>u.free b o q n
 there:=fun b o q _=>by
  by_cases hb:b∈fs
  ·obtain⟨sl,e⟩:=u.slot b o q (fr b hb) hb;exact⟨_,e⟩
  ·obtain⟨o',e⟩:=u.there b o q hb;exact⟨o',st _ _ e⟩
 tups:=u.tups
 frzs:=u.frzs
 tbls:=u.tbls
section
variable {P:Program}{w:World}{K:Y00}{mg:Str->Option Value}{base:Heap}{N:List Str}{qual:Str}{scope:Scope}{f:Addr}{cd:Value}{A:Around}{outer:List Env}{s:Shared}{H:Hp}{E E':XK}
theorem Zcs {env:Env}{l:List Env}{L:Addr}(h:env.frame=some L):frs (env::l)=L::frs l:=by unfold frs;rw[Y37,h]
theorem UnB.after {X:Cx}{pins:List (Addr×Obj)}{σ:St}{Hc H':Hp}{sc:Shared}{B h' h2:Heap}{e:Addr}(I:Inv X pins σ Hc sc)(hex:X.ex=[])(hst:X.stack=X.env::X.outer)(hfr:X.env.frame=some X.env.locals)
  (a:Air B X.stack e h') (u:UnB (frs X.stack) Hc H' sc.heap B h') (up:h'.UpToSlots h2):UnB (frs X.outer) X.H₀ H' X.s₀.heap B h2:=by
 have nex:∀ b:Addr,b∉X.ex:=fun b z=>by rw[hex]at z;cases z
 have efr:frs X.stack=X.env.locals::frs X.outer:=by rw[hst,Zcs hfr]
 have old:∀ b o,X.s₀.heap.get? b=some o->b∉frs X.outer->b∉frs X.stack:=fun b o q hb z=>by
  rw[efr]at z;rcases Y0k.mp z with z|z
  ·have l1:=Y0a q;rw[z]at l1;exact absurd (Y0i l1 I.ok.above) (Y1o _)
  ·exact hb z
 have inn:∀ b,b∈frs X.outer->b∈frs X.stack:=fun b hb=>by rw[efr];exact Y0r _ hb
 exact {
  keep:=fun b o q n hb=>u.keep b o (I.base.keep b o q n hb (nex b)) (I.base.free b o q n (nex b)) (old b o q hb)
  slot:=fun b o q n hb=>by
   obtain⟨sl,e1⟩:=I.base.slot b o q n hb (nex b)
   obtain⟨sl2,e2⟩:=u.slot b _ e1 (I.base.free b o q n (nex b)) (inn b hb)
   obtain⟨_,o3,e3,nf⟩:=a.frames.mem (inn b hb)
   have:o3={ ({ o with slots:=sl }:Obj) with slots:=sl2 }:=by rw[e2]at e3;exact (Option.some.inj e3).symm
   subst this
   obtain⟨sl3,e4⟩:=up b _ e2 nf
   exact⟨sl3,e4⟩
  free:=fun b o q n=>by
   obtain⟨o1,e1⟩:=I.base.there b o q (nex b)
   exact u.free b o1 e1 (I.base.free b o q n (nex b))
  there:=fun b o q hb=>by
   obtain⟨o1,e1⟩:=I.base.there b o q (nex b)
   exact u.there b o1 e1 (old b o q hb)
  tups:=fun b xs q=>u.tups b xs (I.base.tups b xs q)
  frzs:=fun b o v q=>u.frzs b o v (I.base.frzs b o v q)
  tbls:=fun b ps q=>by
   obtain⟨m1,e1⟩:=I.base.tbls b ps q
   obtain⟨m2,e2⟩:=u.tbls b _ e1
   exact⟨m1++m2,by rw[e2,Array.append_assoc]⟩ }
theorem ZiT (hE:∀ C d H',E' C d H'->E C d H'):Xy (CX1 P w) (Xt (CX1 P w) P w K mg base N qual scope f cd A outer s H E) E':=by
 rintro pins σ Hc sc ev s' I ⟨e,C,d,H',rfl,fly,hq⟩;obtain⟨B,a,x,hok,u⟩:=fly.ex;refine Z7u (B:=B) (L:=s.heap.objs.size) I.ok.frames rfl a x fun h2 a2 x2 up=>?_;exact⟨e,C,d,H',rfl,⟨fly.os.trans I.os,fly.bare,B,a2,x2,hok,UnB.after I rfl rfl rfl a u up⟩,hE _ _ _ hq⟩
theorem Zdo {X:Cx}{pins:List (Addr×Obj)}{σ:St}{Hc:Hp}{sc:Shared}{h':Heap}{e:Addr}{C:Value}{args:List Value}(I:Inv X pins σ Hc sc)(m:Heap.MadeExcOf sc.heap h' e C args) :
  ∃ B,Air B X.stack e h'/\Vc B e C none h'/\HOk X.prog X.w Hc B/\UnB (frs X.stack) Hc Hc sc.heap B h':=by
 have fr:=I.stkFree;refine⟨Y3r sc.heap (frs X.stack),⟨fun b o q=>m.keeps _ _ (Y3z _ q),?_,?_⟩,?_,ZcV I.hok fr,?_⟩
 ·cases q:(Y3r sc.heap (frs X.stack)).get? e with
  | none=>rfl
  | some o=>
   have:=Y3z _ q;rw[m.new]at this;cases this
 ·refine (PySem.W.funFrames_hide I.stack fun env he a ha=>Y40.mpr ⟨env,he,ha⟩).of_keeps fun b o q _=>⟨o,m.keeps _ _ q,rfl⟩
 ·obtain⟨t,he,_,_⟩:=m.there;exact⟨_,_,he,rfl,rfl,rfl,by simp,.inl rfl⟩
 ·exact⟨fun b o q _ hb=>Y36 _ q hb,fun b o q _ _=>⟨o.slots,m.keeps _ _ q⟩,fun _ _ _ n=>n,fun b o q hb=>⟨o,Y36 _ q hb⟩,fun _ _ q=>q,fun _ _ _ q=>q,fun _ ps q=>⟨#[],by simpa using q⟩⟩
theorem ZgI:Zee (Xt (CX1 P w) P w K mg base N qual scope f cd A outer s H E) E:=by
 intro pins σ Hc sc h' e C args I m hq;obtain⟨B,a,x,hok,u⟩:=Zdo I m;refine Z7u (s:={ sc with heap:=h' }) (B:=B) (L:=s.heap.objs.size) I.ok.frames rfl a x fun h2 a2 x2 up=>?_;exact⟨e,C,none,Hc,rfl,⟨I.os,I.bare,B,a2,x2,hok,UnB.after I rfl rfl rfl a u up⟩,hq⟩
end
theorem Fun.ok1 {P:Program}{w:World}{K:Y00}{mg:Str->Option Value}{base:Heap}{x qual:Str}{st:Stmt}{f:Addr}{fd:FuncData}{N ps:List Str}{k:Nat}{sp:Sp}(F:Fun K x qual st f fd)(S:ZO N ps (Z0 st))(len:∀ vs H Q E,sp vs H Q E->vs.length=ps.length)
  (hbody:∀ (cdv:Value) (A:Around) (outer:List Env) (s:Shared) (H:Hp) (vs:List V) (Q:VK) (E:XK),ZR k (A.deeper (envOfC qual (Z0 st) s.heap.objs.size f cdv))->sp vs H Q E->
   ∃ t,PSs (Xt (CX1 P w) P w K mg base N qual (Z0 st) f cdv A outer s H E) (YY st) t/\t { nx:=fun _ H'=>Q .non H',rt:=Q } (start N vs) H):Z6 P w K mg base (CX1 P w) (k+1) f fd ps sp:=by
 obtain⟨oc,od,kV,doc,pm,an,cdv,ct,osl,rfl,lk,hcd⟩:=F.ex;exact Zez lk hcd S len fun A outer s H vs Q E hr hsp=>hbody cdv A outer s H vs Q E hr hsp
abbrev Cx.tr (X:Cx)(pn:List (Addr×Obj))(W:Value->Shared->Prop):Cx:={ X with pn:=pn,xe:=W }
noncomputable abbrev Cx.su (X:Cx)(pn:List (Addr×Obj))(e:Addr):Cx:={ X with A:=X.A.mark (some (.ref e)),calm:=false,pn:=pn,xe:=fun _ _=>False }
section
variable {X:Cx}{pins:List (Addr×Obj)}{σ:St}{H:Hp}{s:Shared}{W:Value->Shared->Prop}{e:Addr}
theorem Inv.tr (I:Inv X pins σ H s):Inv (X.tr (X.pn++pins) W) [] σ H s:=
 ⟨⟨I.ok.mod,I.ok.kind,I.ok.glob,I.ok.blt,I.ok.above,I.ok.inj,I.ok.has,I.ok.cab,I.ok.hd,I.ok.frames,I.ok.stk,I.ok.exf,I.ok.bs,I.ok.bsz,I.ok.noex,I.ok.exfs,I.ok.funs,I.ok.frf⟩,I.os,I.bare,I.base,I.loc,I.cell,I.free,I.freeC,fun p hp=>I.pin p (by simpa using hp),I.hok,I.len⟩
theorem Inv.untr {pins':List (Addr×Obj)}(I:Inv (X.tr (X.pn++pins) W) pins' σ H s):Inv X pins σ H s:=
 ⟨⟨I.ok.mod,I.ok.kind,I.ok.glob,I.ok.blt,I.ok.above,I.ok.inj,I.ok.has,I.ok.cab,I.ok.hd,I.ok.frames,I.ok.stk,I.ok.exf,I.ok.bs,I.ok.bsz,I.ok.noex,I.ok.exfs,I.ok.funs,I.ok.frf⟩,I.os,I.bare,I.base,I.loc,I.cell,I.free,I.freeC,fun p hp=>I.pin p (Y1x _ hp),I.hok,I.len⟩
theorem Inv.su (I:Inv X pins σ H s):Inv (X.su (X.pn++pins) e) [] σ H s:=
 ⟨⟨I.ok.mod,I.ok.kind,I.ok.glob,I.ok.blt,I.ok.above,I.ok.inj,I.ok.has,I.ok.cab,fun z=>(nomatch z),I.ok.frames,I.ok.stk,I.ok.exf,I.ok.bs,I.ok.bsz,I.ok.noex,I.ok.exfs,I.ok.funs,I.ok.frf⟩,I.os,I.bare,I.base,I.loc,I.cell,I.free,I.freeC,fun p hp=>I.pin p (by simpa using hp),I.hok,I.len⟩
theorem Inv.unsu (hc:X.calm=true)(hd:X.A.handled=none){pins':List (Addr×Obj)}(I:Inv (X.su (X.pn++pins) e) pins' σ H s):Inv X pins σ H s:=
 ⟨⟨I.ok.mod,I.ok.kind,I.ok.glob,I.ok.blt,I.ok.above,I.ok.inj,I.ok.has,I.ok.cab,fun _=>hd,I.ok.frames,I.ok.stk,I.ok.exf,I.ok.bs,I.ok.bsz,I.ok.noex,I.ok.exfs,I.ok.funs,I.ok.frf⟩,I.os,I.bare,I.base,I.loc,I.cell,I.free,I.freeC,fun p hp=>I.pin p (Y1x _ hp),I.hok,I.len⟩
end
theorem Z9u {M:Model}{A:Around}{E:Value->Shared->Prop}{s:Shared}{K:Y00}{e D:Addr}{o:Obj}{C:Value}{b:Bool}{Q:Bool->Shared->Prop}(k:K.In s.heap)(he:s.heap.get? e=some o)(hc:o.cls=C)
  (h1:Y3i K (.ref D)=some (.type "type")) (h2:(Y3q K D).isSome=true) (h3:Y2o K (.ref D) (.type "BaseException")=some true) (h4:Y2o K C (.ref D)=some b) (q:Q b s):wpAny M A (excMatches (.ref e) (.ref D)) Q E s:=by
 have L1:Y38 M s.heap (typeOf (.ref D)) (.type "type"):=PySem.W.looks_typeIn k h1;have L2:Y38 M s.heap (isType (.ref D)) true:=by
  unfold Y3q at h2
  split at h2
  ·rename_i ho;intro A' Q' E' s' kk z;unfold isType loadHead;exact wpAny_bind (wpAny_loadPart (kk _ _ (k _ _ ho)) (wpAny_pure z))
  ·cases h2
 have L3:Y38 M s.heap (isSubtype (.ref D) (.type "BaseException")) true:=PySem.W.looks_subIn k h3;have L4:Y38 M s.heap (isSubtype C (.ref D)) b:=PySem.W.looks_subIn k h4;have L5:Y38 M s.heap (typeOf (.ref e)) C:=hc ▸ (PySem.W.Looks.ld he).andThen .now;have nt:=tc_notTuple;unfold excMatches isInstance;refine wpAny_bind (wpAny_bind (L1.at ?_));rw[nt];refine wpAny_pure ?_;refine wpAny_bind (wpAny_pure ?_);dsimp only;refine wpAny_bind ?_;rw[Y2z];unfold isExcClass;refine wpAny_bind (wpAny_bind (wpAny_bind (L2.at ?_)));rw[if_pos rfl];refine L3.at ?_;refine wpAny_pure ?_;dsimp only;rw[Y43];refine wpAny_pure ?_;refine wpAny_bind (L5.at ?_);refine wpAny_bind ?_;rw[Y2z];refine wpAny_bind (wpAny_bind (L4.at ?_));cases b with
 | true=>exact wpAny_pure (wpAny_pure (wpAny_pure q))
 | false=>
  refine wpAny_pure ?_;dsimp only;rw[Y43];exact wpAny_pure (wpAny_pure q)
structure TR (X:Cx)(pins:List (Addr×Obj))(σ:St)(H:Hp)(C:Value)(d:Option Addr)(e:Addr)(s:Shared):Prop where
 ex:∃ Hc sc B fl,Inv X pins σ Hc sc/\s.os=sc.os/\AllBare s.gens/\Air B X.stack e s.heap/\WR B e C d fl s.heap/\HOk X.prog X.w H B/\UnB (frs X.stack) Hc H sc.heap B s.heap
section
variable {X:Cx}{pins:List (Addr×Obj)}{σ:St}{H:Hp}{C:Value}{d:Option Addr}{e:Addr}{s:Shared}
theorem UnB.up {fs:List Addr}{H H':Hp}{h B h1 h2:Heap}{l:List Env}{e:Addr}(u:UnB fs H H' h B h1)(a:Air B l e h1)(hl:frs l=fs)(up:h1.UpToSlots h2):UnB fs H H' h B h2:=
 ⟨u.keep,fun b o q n hb=>by
  obtain⟨sl,e1⟩:=u.slot b o q n hb
  obtain⟨_,o3,e3,nf⟩:=a.frames.mem (show b∈frs l by rw[hl];exact hb)
  rw[e1]at e3
  cases e3
  obtain⟨sl2,e4⟩:=up b _ e1 nf
  exact⟨sl2,e4⟩,u.free,u.there,u.tups,u.frzs,u.tbls⟩
theorem TR.inv (x:TR X pins σ H C d e s):Inv X pins σ H s:=by
 obtain⟨Hc,sc,B,fl,I,ho,hb,a,_,hok,u⟩:=x.ex;exact I.call' (ch:=[]) ho (u.un a.stays I.stkFree) (hok.kept a.stays) hb fun b z=>absurd z (by simp)
end
noncomputable abbrev TH:=Value->Option Addr->YZ->St->Hp->Prop
def PH (X:Cx)(hs:List ExceptHandler)(t:TH):Prop:=∀ (pins:List (Addr×Obj)) (s:Shared) (σ:St) (H:Hp) (D:YZ) (C:Value) (d:Option Addr) (e:Addr),TR X pins σ H C d e s->t C d D σ H->
 wpAny (model X.prog X.w) X.A (handleBy (.ref e) X.env hs) (SP X pins D) X.xe s
structure HCls (K:Y00)(D:Addr):Prop where
 ty:Y3i K (.ref D)=some (.type "type")
 cl:(Y3q K D).isSome=true
 ex:Y2o K (.ref D) (.type "BaseException")=some true
noncomputable def hNil:TH:=fun _ _ _ _ _=>False
section
variable {X:Cx}{x n:Str}{DA:Addr}{j:Nat}{b₀:Stmt}{suite:List Stmt}{ts:Addr->TS}{tr:TH}{np hpos pos:Pos}{rest:List ExceptHandler}
theorem ZhB:PH X [] hNil:=fun _ _ _ _ _ _ _ _ _ h=>h.elim
end
def Z6n (CX:CXT)(X:Cx)(E:XK)(σ:St):Prop:=∀ (pins:List (Addr×Obj)) (H:Hp) (s:Shared) (e:Value) (s':Shared),Inv X pins σ H s->CX X.stack H s E e s'->X.xe e s'
def PE1 (X:Cx)(σ:St)(e:Expr)(t:TE):Prop:=∀ (pins:List (Addr×Obj)) (s:Shared) (H:Hp) (Q:VK),Inv X pins σ H s->t σ H Q->wpAny (model X.prog X.w) X.A (eval e X.env) (EP X pins σ Q) X.xe s
def PS1 (X:Cx)(σ:St)(st:Stmt)(t:TS):Prop:=∀ (pins:List (Addr×Obj)) (s:Shared) (H:Hp) (D:YZ),Inv X pins σ H s->t D σ H->wpAny (model X.prog X.w) X.A (exec st X.env) (SP X pins D) X.xe s
section
variable {X:Cx}{CX:CXT}{k:Nat}{f:Addr}{fd:FuncData}{ps:List Str}{sp:Sp}{dvs:List V}{ds:List Value}{E:XK}{x:Str}{p pos:Pos}{e:Expr}{es:List Expr}{t:TA}{te:TE}{σ:St}
theorem Zcr (he:PE1 X σ e te)(hs:swapsWith e none pos.line X.env=pure false:=by rfl):PS1 X σ (.Expr e pos) (Zh3 te):=by
 intro pins s H D I h;exact wpAny_Expr_any (thn (he pins s H _ I h) fun v s1 ⟨y,H1,I1,r1,q1⟩=>⟨σ,H1,I1,q1⟩) I.quiet hs
end
noncomputable def tTry (tb:XK->TS)(th:TH):TS:=fun D σ H=>∃ E:XK,tb E D σ H/\∀ C d H',E C d H'->th C d D σ H'
theorem SP.untr {X:Cx}{pins:List (Addr×Obj)}{W:Value->Shared->Prop}{D:YZ}{f:Flow}{s:Shared}(h:SP (X.tr (X.pn++pins) W) [] D f s):SP X pins D f s:=by
 cases f with
 | next=>obtain⟨σ,H,I,q⟩:=h;exact⟨σ,H,I.untr,q⟩
 | brk=>obtain⟨σ,H,I,q⟩:=h;exact⟨σ,H,I.untr,q⟩
 | cont=>obtain⟨σ,H,I,q⟩:=h;exact⟨σ,H,I.untr,q⟩
 | ret u=>obtain⟨v,σ,H,I,r,q⟩:=h;exact⟨v,σ,H,I.untr,r,q⟩
theorem ZgM {X:Cx}{st:Stmt}{h₀:ExceptHandler}{hs:List ExceptHandler}{tb:XK->TS}{th:TH}{pos:Pos}(hst:X.stack=X.env::X.outer)(hfr:X.env.frame=some X.env.locals)
  (hb:∀ E σ pn W,Z6n (CX1 X.prog X.w) (X.tr pn W) E σ->PS1 (X.tr pn W) σ st (tb E)) (hh:PH X (h₀::hs) th):PS X (.Try [st] (h₀::hs) [] [] pos) (tTry tb th):=by
 intro pins s σ H D I h;obtain⟨E,hB,hH⟩:=h;refine wpAny_Try_except ?_;have pass:Z6n (CX1 X.prog X.w) (X.tr (X.pn++pins) (fun ev s₁=>wpAny (model X.prog X.w) X.A (noteFrame ev X.env) (fun _ s₂=>wpAny (model X.prog X.w) X.A (setFlight ev none) (fun _ s₃=>wpAny (model X.prog X.w) X.A (handleBy ev X.env (h₀::hs)) (SP X pins D) X.xe s₃) X.xe s₂) X.xe s₁)) E σ:=by
  rintro pins' Hc sc ev s' Ic ⟨e,C,d,H',rfl,fly,hq⟩;obtain⟨B,a,x,hok,u⟩:=fly.ex;have hfrm:X.A.frames=some (X.env::X.outer):=by rw[I.ok.frames,hst]
  have a':Air B (X.env::X.outer) e s'.heap:=by rw[<-hst];exact a
  refine Z8G hfrm hfr a' x fun h1 a1 x1 u1=>?_;refine Z4e (s:={ s' with heap:=h1 }) (o:=none) a1 x1 fun h2 a2 x2 u2=>?_;have up:=u1.trans u2;have hl:TR X pins σ H' C d e { s' with heap:=h2 }:=⟨Hc,sc,B,_,Ic.untr,fly.os,fly.bare,by rw[hst];exact a2,x2,hok,u.up a rfl up⟩;exact hh pins _ σ H' D C d e hl (hH C d H' hq)
 refine wpAny_execs_cons (wpAny_mono (hb E σ _ _ pass [] s H D I.tr hB) (fun f s1 hf=>?_) fun _ _ z=>z);cases f with
 | next=>exact wpAny_execs_nil (wpAny_execs_nil (SP.untr hf))
 | brk=>exact SP.untr hf
 | cont=>exact SP.untr hf
 | ret u=>exact SP.untr hf
section
variable {prog:Program}{w:World}{A:Around}{E:Value->Shared->Prop}{s:Shared}{K:Y00}{x D:Addr}{ox:Obj}{od:Option Obj}{name:Str}
end
section
variable {X:Cx}
end
section
variable {X:Cx}{o e:Expr}{es:List Expr}{to:TE}{t:TA}{name:Str}{id:String}{r:V->List V->Hp->VK->Prop}{apos cpos:Pos}
theorem Z7g:∀ (r:List Nat) (j i:Nat),j<r.idxOf i->r[j]?≠some i
 | [],j,i,h=>by simp at h
 | a::r,j,i,h=>by
  by_cases e:a=i
  ·subst e;simp at h
  ·cases j with
   | zero=>simp;exact e
   | succ j=>
    have h':j<r.idxOf i:=by
     rw[List.idxOf_cons]at h;have:(a==i)=false:=by simpa using e
     rw[this]at h;simp at h;exact h
    simpa using Z7g r j i h'
end
structure Vd (K:Y00)(D:Addr):Prop where
 ty:Y3i K (.ref D)=some (.type "type")
 cl:PySem.W.isClsIn K D=true
 be:Y2o K (.ref D) (.type "BaseException")=some true
 ga:Y0v K (.ref D) "__getattribute__"=some (some (.builtin "BaseException.__getattribute__"))
 gt:Y0v K (.ref D) "__getattr__"=some none
 ac:Y0v K (.ref D) "__class__"=some (some (.builtin "object.__class__"))
 sp:Y3f K (.builtin "object.__class__") "__get__"=some (some (.builtin "getset_descriptor.__get__"))
 tk:Y3t K (.builtin "object.__class__")=some true
 mo:Y48 K D (.type "object")=some true
theorem Vd.isCl {K:Y00}{D:Addr}(f:Vd K D):(Y3q K D).isSome=true:=f.cl
theorem Vd.h {K:Y00}{D:Addr}(f:Vd K D):HCls K D:=⟨f.ty,f.isCl,f.be⟩
section
variable {X:Cx}
end
structure TC (K:Y00)(x qual:Str)(st:Stmt)(dV:Value)(f:Addr)(fd:FuncData):Prop where
 ex:∃ (oc:Value) (od:Option Addr) (kV doc pm:Value) (an:Option Addr) (cdv ct:Value) (osl:Array (Option Value)),
  fd=Y17 x qual (YL st) (YY st) (Z0 st) dV kV doc pm an cdv ct/\K.lookup f=some ⟨oc,od,.func fd,osl⟩/\Y24 K cdv qual=true
 kp:Y18 K (.ref f)=true
section
variable {P:Program}{w:World}{K:Y00}{mg:Str->Option Value}{base:Heap}
theorem Zf9 {x qual:Str}{st:Stmt}{dV:Value}{f:Addr}{oc:Value}{od an:Option Addr}{osl:Array (Option Value)}{kV doc pm cdv ct:Value}(l:K.lookup f=some ⟨oc,od,.func (Y17 x qual (YL st) (YY st) (Z0 st) dV kV doc pm an cdv ct),osl⟩)
  (c:Y24 K cdv qual=true) (k:Y18 K (.ref f)=true):TC K x qual st dV f (Y17 x qual (YL st) (YY st) (Z0 st) dV kV doc pm an cdv ct):=⟨⟨oc,od,kV,doc,pm,an,cdv,ct,osl,rfl,l,c⟩,k⟩
end
theorem SF {P:Program}{w:World}{X:Cx}:Xy (CX1 P w) X E0:=by rintro _ _ _ _ _ _ _ ⟨_,_,_,_,_,_,z⟩;exact z.elim
structure MFn (K:Y00)(C:Addr)(m qual:Str)(st:Stmt)(ps:List Str)(f:Addr)(fd:FuncData):Prop where
 F:Fun K m qual st f fd
 b:YV K fd ps []
 m:Vb K C m f
section
variable {P:Program}{w:World}{K:Y00}{mg:Str->Option Value}{base:Heap}
theorem TC.ok {x qual:Str}{st:Stmt}{dV:Value}{f:Addr}{fd:FuncData}{N ps:List Str}{k:Nat}{sp:Sp}(F:TC K x qual st dV f fd)(S:ZO N ps (Z0 st))(len:∀ vs H Q E,sp vs H Q E->vs.length=ps.length)
  (hbody:∀ (cdv:Value) (A:Around) (outer:List Env) (s:Shared) (H:Hp) (vs:List V) (Q:VK) (E:XK),ZR k (A.deeper (envOfC qual (Z0 st) s.heap.objs.size f cdv))->sp vs H Q E->
   ∃ t,PSs (Xt CX0 P w K mg base N qual (Z0 st) f cdv A outer s H E).nox (YY st) t/\t { nx:=fun _ H'=>Q .non H',rt:=Q } (start N vs) H):Z6 P w K mg base CX0 (k+1) f fd ps sp:=by
 obtain⟨oc,od,kV,doc,pm,an,cdv,ct,osl,rfl,lk,hcd⟩:=F.ex;refine Zez lk hcd S len fun A outer s H vs Q E hr hsp=>?_;obtain⟨t,h,q⟩:=hbody cdv A outer s H vs Q E hr hsp;exact⟨t,h.nox,q⟩
end
structure FnD (K:Y00)(mg:Str->Option Value)(x:Str)(st:Stmt)(ps:List Str)(v:V)(f:Addr)(fd:FuncData)(u:Value):Prop where
 F:∃ dV,TC K x x st dV f fd
 kp:Y18 K (.ref f)=true
 b:YV K fd ps []
 d:YV K fd ps [u]
 r:ZT [v] [u]
 m:mg x=some (.ref f)
def TX (K:Y00)(x:Str)(st:Stmt)(ps:List Str)(v:V):Prop:=∃ f fd u,(∃ dV,TC K x x st dV f fd)/\Y18 K (.ref f)=true/\YV K fd ps []/\YV K fd ps [u]/\ZI v u/\Y0n K mainGlobals x=some (some (.ref f))
theorem TX.fn {K:Y00}{h:Heap}{mg:Str->Option Value}{x:Str}{st:Stmt}{ps:List Str}{v:V}(X:K.In h)(G:h.Ns mainGlobals mg)(R:TX K x st ps v):∃ f fd u,FnD K mg x st ps v f fd u:=by
 obtain⟨f,fd,u,F,kp,b,d,r,m⟩:=R;exact⟨f,fd,u,F,kp,b,d,.cons r .nil,Y11 X G m⟩
theorem ZdI {K:Y00}{x p1 p2:Str}{st:Stmt}{v:V}{f Td:Addr}{oc tc u:Value}{od an td:Option Addr}{osl tsl:Array (Option Value)}{kV doc pm cdv ct:Value}{tn:Nat}(a:Y0n K mainGlobals x=some (some (.ref f)))
  (l:K.lookup f=some ⟨oc,od,.func (Y17 x x (YL st) (YY st) (Z0 st) (.ref Td) kV doc pm an cdv ct),osl⟩) (c:Y24 K cdv x=true) (k:Y18 K (.ref f)=true)
  (t:K.lookup Td=some ⟨tc,td,.seq #[u] tn,tsl⟩) (r:ZI v u)
  (b2:∀ (s:Shared),K.In s.heap->∀ y z:Value,BindsTo s (Y17 x x (YL st) (YY st) (Z0 st) (.ref Td) kV doc pm an cdv ct) ⟨[y,z],[]⟩ [(p1,y),(p2,z)])
  (b1:∀ (s:Shared),K.In s.heap->∀ y:Value,BindsTo s (Y17 x x (YL st) (YY st) (Z0 st) (.ref Td) kV doc pm an cdv ct) ⟨[y],[]⟩ [(p1,y),(p2,u)]):TX K x st [p1,p2] v:=by
 refine⟨f,_,u,⟨_,Zf9 l c k⟩,k,fun s us hK hl=>?_,fun s us hK hl=>?_,r,a⟩
 ·have hl':us.length=2:=by simpa using hl
  match us,hl' with
  | [y,z],_=>exact b2 s hK y z
 ·have hl':us.length=1:=by simpa using hl
  match us,hl' with
  | [y],_=>exact b1 s hK y
end L2
namespace L2
open PySem PySem.Spec PyProof.Rows PySem.W
structure Mk0 (K:Y00)(C:Addr):Prop where
 makes:Y2u K C=true
 init:Y0v K (.ref C) "__init__"=some (some (.builtin "object.__init__"))
 kp:Y18 K (.ref C)=true
noncomputable def tNew (C:Addr):TE:=fun _ H Q=>∀ x dx,H x=none->H dx=none->dx≠x->Q (.ref x) (upd (upd H dx (.own x)) x (.ins C dx []))
noncomputable def Sa (t1 t2:TE):TE:=fun σ H Q=>t1 σ H Q\/t2 σ H Q
section
variable {X:Cx}{x:Str}{C:Addr}{p pos:Pos}
theorem Zen (M:Mk0 X.K C)(hg:Gl X x)(hm:X.mg x=some (.ref C))(hdb:(x==("__debug__":Str))=false:=by decide):PE X (.Call (.Name x p) [] [] pos) (tNew C):=by
 intro pins s σ H Q I h;have hq:=h (s.heap.objs.size+1) s.heap.objs.size (I.hok.fresh (Y2i _)) (I.hok.fresh (Y04 _)) (Y0j (Y1t _));have I2:=Inv.made (C:=C) I;refine wpAny_Call_Name_kw (Wv I hg hm ?_ hdb);refine Y3u I.kIn M.kp (wpAny_call (Zak I.kIn M.makes M.init (fun self=>Looks.of_pure (oi_bind self)) ?_));have Y:=makes_of (M:=model X.prog X.w) I.kIn M.makes;have e2:((s.heap.push Y1a).push (Y1l C s.heap.objs.size)).get? (s.heap.objs.size+1)=some (Y1l C s.heap.objs.size):=by
  have:=Y06 (s.heap.push Y1a) (o:=Y1l C s.heap.objs.size) rfl
  rwa [Y19]at this
 have t1:Looks (model X.prog X.w) ((s.heap.push emptyDict).push (instObj C s.heap.objs.size)) (typeOf (.ref (s.heap.objs.size+1))) (.ref C):=(Looks.ld e2).andThen .now;have t2:Looks (model X.prog X.w) ((s.heap.push emptyDict).push (instObj C s.heap.objs.size)) (isInstance (.ref (s.heap.objs.size+1)) (.type "object")) true:=t1.andThen (Y.top.keeps fun b o e=>Y02 (Y1l C s.heap.objs.size) (Y02 Y1a e));refine codeAny_call_builtin oi_plain entry_oi ?_;refine @check_slot (model X.prog X.w) _ _ _ "object.__init__" "object" "__init__" (.ref (s.heap.objs.size+1)) [] [] _ oi_kind oi_split t2 (oi_args (.ref (s.heap.objs.size+1))) ?_;rw[oi_run];exact wpAny_pure ⟨rfl,.ref (s.heap.objs.size+1),_,I2,rfl,hq⟩
theorem PE.or2 {e:Expr}{t1 t2:TE}(h1:PE X e t1)(h2:PE X e t2):PE X e (Sa t1 t2):=fun pins s σ H Q I h=>h.elim (h1 pins s σ H Q I) (h2 pins s σ H Q I)
end
end L2
namespace K1
open PySem L2 Sq
def D0 (C:Addr)(H:Hp)(a:Addr):Prop:=∃ dx,H a=some (.ins C dx [])
noncomputable def TY (m:Int):List (Str×V):=Za "many" (.int m) []
theorem ZaF (m:Int):(TY m).lookup ("many":Str)=some (.int m):=by unfold TY;rw[Tx,if_pos rfl]
def D1 (C:Addr)(H:Hp)(a:Addr)(m:Int):Prop:=∃ dx,H a=some (.ins C dx (TY m))
theorem new0 {C:Addr}{H:Hp}{Q:VK}(k:∀ (H':Hp) (b:Addr),Z7 H H'->D0 C H' b->Q (.ref b) H'):∀ σ:St,tNew C σ H Q:=fun σ x dx hx hd ne=>by
 have s1:=Z4 (o:=.own x) (Z7.refl H) hd;have hx1:(upd H dx (.own x)) x=none:=by rw[ZZ (Ne.symm ne)];exact hx
 exact k _ x (s1.trans (Z4 (Z7.refl _) hx1)) ⟨dx,Z2⟩
section
variable {P:Program}{w:World}{K:Y00}{mg:Str->Option Value}{base:Heap}
end
def UU:Sp:=fun vs H Q _=>∃ (p:Addr) (n:Nat) (r:List Nat),vs=[.ref p]/\H p=some (.tup (nv r))/\Row n r/\n<=36/\∀ (H':Hp) (l:Addr),Z7 H H'->H' l=some (.tup (nv (back r)))->Q (.ref l) H'
section
variable {P:Program}{w:World}{K:Y00}{mg:Str->Option Value}{base:Heap}
theorem Tj:ZO ["row","back","square","target"] ["row"] (Z0 W1):=⟨rfl,rfl,rfl,by decide +kernel,rfl,by decide +kernel,by decide +kernel⟩
theorem Z9H {f:Addr}{fd:FuncData}(T:Bi mg)(F:Fn K mg "back_row" W1 ["row"] f fd):Z6 P w K mg base CX0 1 f fd ["row"] UU:=by
 refine F.F.ok Tj (fun vs H Q E h=>?_) (fun cdv A outer s H vs Q E hr h=>?_)
 ·obtain⟨p,n,r,rfl,_⟩:=h;rfl
 ·obtain⟨p,n,r,rfl,hp,rr,hn,k⟩:=h;refine⟨_,Z5 (ZP (i:=1) Tj.nd rfl (Or.inl rfl) (Y7 Z6E rfl T.list To (Z9 (pv 0) Z8)))
   (Z5 (YQ PassesOwn.never rfl (Z91 rfl T.enum (Z9 (pv 0) Z8)) (Uy rfl (YG (ZE (i:=2) Tj.nd rfl (Or.inl rfl)) (YG (ZE (i:=3) Tj.nd rfl (Or.inl rfl)) Xn)))
    (Z1 (Z7P (pv 1) (pv 3) (pv 2) rfl)))
   (Z1 (ZS (Y7 XH rfl T.tuple Yg (Z9 (pv 1) Z8))))),?_⟩
  refine⟨_,rfl,p,_,rfl,.inr (SqT.of hp),fun lb hlb=>?_⟩;have s1:Z7 H (upd H lb (.lst (nv r))):=Z4 (Z7.refl H) hlb;refine⟨_,rfl,p,rfl,⟨_,SqT.of (s1 _ _ hp)⟩,SU (xs:=nv r) (fun i σ H2=>∃ o2 o3 bl,σ=[some (.ref p),some (.ref lb),o2,o3]/\Z7 H H2/\H2 lb=some (.lst (nv bl))/\bl.length=n/\∀ k,k<i->bl[nx r k]?=some k)
   ⟨_,_,r,rfl,s1,Z2,rr.len,fun k hk=>absurd hk (Y1w _)⟩ (fun i σ H2 _ ⟨_,_,_,_,s2,_⟩=>SqT.of (s2 _ _ hp)) ?_ ?_⟩
  ·rintro i x σ H2 T' hx hT ⟨o2,o3,bl,rfl,s2,h2,hbl,hall⟩;obtain⟨y,hy,rfl⟩:=VH hx;have hi:i<n:=(by rw[<-rr.len];exact (Y07.mp hy).1);have ey:y=nx r i:=(by have:=rr.get hi;rw[hy]at this;exact Option.some.inj this);have hyn:y<n:=(by rw[ey];exact rr.nlt hi);have h2':(upd H2 T' (Yq T' [.int (i:Int),.int (y:Int)])) lb=some (.lst (nv bl)):=(by rw[ZZ (Zv h2 hT)];exact h2);refine⟨T',_,rfl,Z2,rfl,_,_,rfl,_,_,rfl,rfl,?_⟩;refine⟨_,rfl,_,rfl,_,rfl,lb,_,_,y,rfl,rfl,h2',?_,?_⟩
   ·unfold ixN;rw[if_pos (by omega),if_pos (by rw[ZQ,hbl];omega)];simp
   refine⟨_,_,bl.set y i,rfl,Z4 (Z4 s2 (s2.free hT)) hlb,by rw[Z2,Zb8],by rw[List.length_set];exact hbl,fun k hk=>?_⟩;rcases Y0x k i with c|c
   ·have hne:y≠nx r k:=fun z=>by
     rw[ey]at z;have:=rr.inj hi (by omega) z;omega
    rw[Y33 hne];exact hall k c
   ·have:k=i:=(by omega);subst this;rw[<-ey,Y2r (by rw[hbl];exact hyn)]
  ·rintro σ H2 ⟨o2,o3,bl,rfl,s2,h2,hbl,hall⟩;rw[ZQ,rr.len]at hall;have e:=Z6B rr hbl hall;subst e;refine⟨_,rfl,lb,_,rfl,.inl ⟨SqL.of h2,fun l hl=>k _ l (Z4 s2 (s2.free hl)) Z2⟩⟩
end
structure DTx (K:Y00)(C:Addr):Prop where
 cl:Cls K C
 nM:XX K C "many"
def Ut (C:Addr):Sp:=fun vs H Q _=>∃ (p dx:Addr) (m:Int),vs=[.ref p,.int m]/\H p=some (.ins C dx [])/\∀ H':Hp,(∀ x,x≠p->H' x=H x)->D1 C H' p m->Q .non H'
theorem mkD1 {C x dx:Addr}{H:Hp}{m:Int}{R:VK}{E:XK}(nx:H x=none)(ndx:H dx=none)(k:∀ H':Hp,Z7 H H'->D1 C H' x m->R .non H') :
  Ut C [.ref x,.int m] (upd (upd H dx (.own x)) x (.ins C dx [])) R E:=by
 refine⟨x,dx,m,rfl,Z2,fun H' s P=>k H' (fun c o e=>?_) P⟩;rw[s c (Zv e nx),ZZ (Zv e nx),ZZ (Zv e ndx)];exact e
theorem Xo:bootBuiltins "str"=some (.type "str"):=by decide +kernel
theorem VD {m:Int}(h:m.natAbs<=1000):m.natAbs.log2<1000:=by
 by_cases z:m.natAbs=0
 ·rw[z];decide
 ·exact (Nat.log2_lt z).mpr (Y2f h (by decide +kernel))
noncomputable abbrev Z7L:Stmt:=X7 Ze6 0
noncomputable abbrev Z8h:Stmt:=X7 Zh2 0
section
variable {P:Program}{w:World}{K:Y00}{mg:Str->Option Value}{base:Heap}
theorem ZbF:ZO ["self","many"] ["self","many"] (Z0 Z7L):=⟨rfl,rfl,rfl,by decide +kernel,rfl,by decide +kernel,by decide +kernel⟩
theorem ZbQ {f C:Addr}{fd:FuncData}(T:DTx K C)(F:Fun K "__init__" "Shear.__init__" Z7L f fd):Z6 P w K mg base CX0 1 f fd ["self","many"] (Ut C):=by
 refine F.ok ZbF (fun vs H Q E h=>?_) (fun cdv A outer s H vs Q E hr h=>?_)
 ·obtain⟨p,dx,m,rfl,_⟩:=h;rfl
 ·obtain⟨p,dx,m,rfl,hp,k⟩:=h;refine⟨_,Z1 (Vw (pv 0) (pv 1) rfl),?_⟩;refine⟨_,rfl,_,rfl,p,C,dx,[],rfl,hp,T.cl,T.nM,(by show 0<1000;decide),?_⟩;exact k _ (fun x hx=>by rw[ZZ hx]) ⟨dx,Z2⟩
theorem Zbe:ZO ["self","many"] ["self","many"] (Z0 Z8h):=⟨rfl,rfl,rfl,by decide +kernel,rfl,by decide +kernel,by decide +kernel⟩
theorem ZbP {f C:Addr}{fd:FuncData}(T:DTx K C)(F:Fun K "__init__" "Turn.__init__" Z8h f fd):Z6 P w K mg base CX0 1 f fd ["self","many"] (Ut C):=by
 refine F.ok Zbe (fun vs H Q E h=>?_) (fun cdv A outer s H vs Q E hr h=>?_)
 ·obtain⟨p,dx,m,rfl,_⟩:=h;rfl
 ·obtain⟨p,dx,m,rfl,hp,k⟩:=h;refine⟨_,Z1 (Vw (pv 0) (pv 1) rfl),?_⟩;refine⟨_,rfl,_,rfl,p,C,dx,[],rfl,hp,T.cl,T.nM,(by show 0<1000;decide),?_⟩;exact k _ (fun x hx=>by rw[ZZ hx]) ⟨dx,Z2⟩
end
end K1
namespace L2
open PySem PySem.Spec PyProof.Rows
section
variable {X:Cx}
end
section
variable {prog:Program}{w:World}{A:Around}{E:Value->Shared->Prop}
end
section
variable {X:Cx}
end
def TDi (P:Program)(w:World)(K:Y00)(a:Addr)(vs:List (Key×Value)):Prop:=
 (a==sysModules)=false/\∃ o es ep,K.lookup a=some o/\o.ExactDict/\o.data=Data.dict es ep/\PySem.KeysOf (Y9 P w) es/\Pairs (Y9 P w) es.toList vs/\(vs.map (·.1)).Nodup
theorem TDi.dict {P:Program}{w:World}{K:Y00}{a:Addr}{vs:List (Key×Value)}{h:Heap}(t:TDi P w K a vs)(k:K.In h):Heap.DictOf (Y9 P w) h a vs:=by
 obtain⟨_,o,es,ep,l,r⟩:=t;exact⟨o,es,ep,k a o l,r⟩
section
variable {X:Cx}
noncomputable def rInK (P:Program)(w:World)(K:Y00):R2:=fun x y H Q=>∃ (a:Addr) (vs:List (Key×Value)) (k:Key),x=kV k/\y=.ref a/\TDi P w K a vs/\Q (.bl (valueAt vs k).isSome) H
theorem ZfQ:OpR X (compareOp .In) (rInK X.prog X.w X.K):=by
 intro pins s σ H x y v u Q I rx ry h;obtain⟨a,vs,k,rfl,rfl,t,q⟩:=h;cases (show u=Value.ref a from ry);exact wpAny_in_of (Wd rx) t.1 (t.dict I.kIn).mapOf ⟨.bl _,H,I.tok _,rfl,q⟩
noncomputable def Zie (P:Program)(w:World)(K:Y00):R2:=fun x y H Q=>∃ (a:Addr) (vs:List (Key×Value)) (k:Key) (v:V) (u:Value),x=.ref a/\y=kV k/\TDi P w K a vs/\valueAt vs k=some u/\ZI v u/\Q v H
theorem ZcX {o i:Expr}{pos:Pos}{td ty:TE}(ho:PE X o td)(hi:PE X i ty)(hs:Zjv i):PE X (.Subscript o i pos) (tOp (Zie X.prog X.w X.K) td ty):=by
 intro pins s σ H Q I h;refine ZbL PySem.F.slot_dict_getitem.lookup hs (thn (ho pins s σ H _ I h) fun u s1 ⟨x,H1,I1,rx,q1⟩=>thn (hi pins s1 σ H1 _ I1 q1) fun iv s2 ⟨y,H2,I2,ry,a,vs,k,v',u',ex,ey,t,e,ru,q2⟩=>?_);subst ex ey;obtain rfl:u=Value.ref a:=rx;have dd:=t.dict I2.kIn;exact⟨dd.typeIs,wpAny_getItem_of (Wd ry) dd.mapOf e ⟨v',H2,I2.tok _,ru,q2⟩⟩
end
section
variable {X:Cx}{k:Nat}{f C:Addr}{fd:FuncData}{ps:List Str}{sp:Sp}{dvs:List V}{ds:List Value}{E:XK}{x:Str}{p pos:Pos}{e:Expr}{es:List Expr}{t:TA}
end
section
variable {prog:Program}{w:World}{A:Around}{E:Value->Shared->Prop}{s:Shared}
end
section
variable {X:Cx}{elt tg a0:Expr}{sc:Scope}{pos p0 pos0:Pos}{ta:TA}{g:TG}{te:TE}{N:List Str}{names:List (Str×NameKind)}{N':List Str}{k:Nat}{pull:List Nat}
end
section
variable {X:Cx}
theorem Zc2 {v:Value}{o:Option Int}(p:IsPart v o):∃ q:Option (Int×Tok),v=partValue q/\q.map (·.1)=o:=by
 cases p with
 | none=>exact⟨none,rfl,rfl⟩
 | int i t=>exact⟨some (i,t),rfl,rfl⟩
def rSlS:V->Option Int->Option Int->Hp->VK->Prop:=fun x lo hi H Q=>∃ z:Str,x=.str z/\(StrLaws.sliceText z lo hi).length<=sizeLine/\Q (.str (StrLaws.sliceText z lo hi)) H
theorem Zhv:SlR X rSlS:=by
 intro pins s σ H x v vl vu lo hi sl Q I rx hs pl pu h;obtain⟨z,rfl,hz,q⟩:=h;obtain⟨t,rfl⟩:=rx;obtain⟨l,rfl,el⟩:=Zc2 pl;obtain⟨u,rfl,eu⟩:=Zc2 pu;subst el eu;refine⟨"str",_,F.slot_str_getitem.lookup,typeIs_str _ _ _,wpAny_getItem_str_slice (l:=l) (u:=u) (st:=none) hs rfl ?_⟩;exact post_val_or_str ⟨hz,fun t' k=>⟨.str _,H,I.tok k,⟨_,rfl⟩,q⟩⟩
end
namespace RF
end RF
end L2
namespace L2
open PySem PySem.Spec PyProof.Rows Sq
section
variable {X:Cx}
end
theorem Z8A (zs:List (List Nat)):Txt.join (txt []) (zs.map txt)=txt zs.flatten:=by
 show Builtin.Str.glued _ _=_;rw[StrLaws.glued_eq_join]
 induction zs with
 | nil=>rfl
 | cons c l ih=>cases l with
  | nil=>show txt c=_;simp
  | cons d l=>
   show txt c++txt []++Str.join (txt []) ((d::l).map txt)=_;rw[ih,Zh,Zh];simp
end L2
namespace L2
open PySem PySem.Spec PyProof.Rows
section
variable {X:Cx}{x:Str}{p pos:Pos}{e:Expr}{te:TE}{σ:St}{r:List V->Hp->VK->Prop}{id:String}
end
section
variable {X:Cx}
def ZeU:V->List V->Hp->VK->Prop:=fun x vs H Q=>∃ z y,x=.str z/\vs=[.str y]/\Q (.bl (Txt.startswith z y)) H
theorem Za0:MtM X "str.startswith" ZeU:=by
 intro pins s σ H x vs v us Q I rx rv h;obtain⟨z,y,rfl,rfl,q⟩:=h;obtain⟨t,rfl⟩:=rx;obtain⟨u,rfl,t',rfl⟩:=rv.one;exact SC.startswith ⟨.bl _,H,I,rfl,q⟩
theorem Z6p:YM X (.type "int") (fun xs H Q=>∃ (z:Str) (n:Int),xs=[.str z]/\intText? z=some n/\z.length<=640/\Q (.int n) H):=by
 intro pins s σ H xs us Q I r h;obtain⟨z,n,rfl,hn,hz,q⟩:=h;obtain⟨u,rfl,t,rfl⟩:=YE r;exact PySem.W.KIN.call_text hn hz ⟨.int n,H,I.tok _,⟨_,rfl⟩,q⟩
end
def TTs (K:Y00)(a:Addr)(zs:List Str):Prop:=∃ (o:Obj) (its:Array Value) (n:Nat),K.lookup a=some o/\o.cls=.type "tuple"/\o.data=.seq its n/\its.size<=sizeLine/\ZT (zs.map V.str) its.toList
theorem TTs.sq {K:Y00}{a:Addr}{zs:List Str}(h:TTs K a zs)(H:Hp):SqT K H a (zs.map V.str):=.inr h
theorem TU {K:Y00}{a:Addr}{od:Option Addr}{n:Nat}{sl:Array (Option Value)}(l:K.lookup a=some ⟨.type "tuple",od,.seq #[] n,sl⟩):TTs K a []:=⟨_,_,_,l,rfl,rfl,(by show 0<=sizeLine;decide),.nil⟩
theorem ZjB {K:Y00}{a:Addr}{z1:Str}{t1:Tok}{od:Option Addr}{n:Nat}{sl:Array (Option Value)}(l:K.lookup a=some ⟨.type "tuple",od,.seq #[.str z1 t1] n,sl⟩):TTs K a [z1]:=⟨_,_,_,l,rfl,rfl,(by show 1<=sizeLine;decide),.cons ⟨_,rfl⟩ .nil⟩
theorem tts2 {K:Y00}{a:Addr}{z1 z2:Str}{t1 t2:Tok}{od:Option Addr}{n:Nat}{sl:Array (Option Value)}(l:K.lookup a=some ⟨.type "tuple",od,.seq #[.str z1 t1,.str z2 t2] n,sl⟩):TTs K a [z1,z2]:=⟨_,_,_,l,rfl,rfl,(by show 2<=sizeLine;decide),.cons ⟨_,rfl⟩ (.cons ⟨_,rfl⟩ .nil)⟩
theorem tts4 {K:Y00}{a:Addr}{z1 z2 z3 z4:Str}{t1 t2 t3 t4:Tok}{od:Option Addr}{n:Nat}{sl:Array (Option Value)}(l:K.lookup a=some ⟨.type "tuple",od,.seq #[.str z1 t1,.str z2 t2,.str z3 t3,.str z4 t4] n,sl⟩):TTs K a [z1,z2,z3,z4]:=⟨_,_,_,l,rfl,rfl,(by show 4<=sizeLine;decide),.cons ⟨_,rfl⟩ (.cons ⟨_,rfl⟩ (.cons ⟨_,rfl⟩ (.cons ⟨_,rfl⟩ .nil)))⟩
inductive KvL (w:World):List DictEntry->List (Key×Value)->Prop
 | nil:KvL w [] []
 | cons {x:Str} {t:Tok} {v:Value} {h:Int} {es:List DictEntry} {vs:List (Key×Value)} (e:h=hashStr w x) (r:KvL w es vs):KvL w (⟨h,.str x t,v⟩::es) ((Sum.inr x,v)::vs)
theorem KvL.keys {P:Program}{w:World}{es:List DictEntry}{vs:List (Key×Value)}(k:KvL w es vs):∀ e∈es,∃ key,(Y9 P w).is key e.key=true/\e.hash=(Y9 P w).hash key:=by
 induction k with
 | nil=>intro e he;cases he
 | @cons x t v h es vs e1 r ih=>
  intro e he;rcases Y0k.mp he with rfl|he
  ·exact⟨Sum.inr x,Z53 x t,e1⟩
  ·exact ih e he
theorem KvL.pairs {P:Program}{w:World}{es:List DictEntry}{vs:List (Key×Value)}(k:KvL w es vs):Pairs (Y9 P w) es vs:=by
 induction k with
 | nil=>exact .nil
 | @cons x t v h es vs e1 r ih=>exact .cons (Z53 x t) rfl ih
theorem tdiL {P:Program}{w:World}{K:Y00}{a:Addr}{es:Array DictEntry}{vs:List (Key×Value)}{ep:Nat}(hs:(a==sysModules)=false)
  (l:K.lookup a=some ⟨.type "dict",none,.dict es ep,#[]⟩) (k:KvL w es.toList vs) (nd:(vs.map (·.1)).Nodup):TDi P w K a vs:=
 ⟨hs,_,_,_,l,⟨rfl,rfl,rfl⟩,rfl,fun e he=>k.keys e (by simpa using he),k.pairs,nd⟩
theorem Zjr {P:Program}{w:World}{K:Y00}{a:Addr}{x1 x2 x3 x4 x5 x6 x7 x8 x9 x10 x11 x12 x13 x14 x15:Str}{t1 t2 t3 t4 t5 t6 t7 t8 t9 t10 t11 t12 t13 t14 t15:Tok}{v1 v2 v3 v4 v5 v6 v7 v8 v9 v10 v11 v12 v13 v14 v15:Value}{ep:Nat}{h1 h2 h3 h4 h5 h6 h7 h8 h9 h10 h11 h12 h13 h14 h15:Int}(hs:(a==sysModules)=false)
  (l:K.lookup a=some ⟨.type "dict",none,.dict #[⟨h1,.str x1 t1,v1⟩,⟨h2,.str x2 t2,v2⟩,⟨h3,.str x3 t3,v3⟩,⟨h4,.str x4 t4,v4⟩,⟨h5,.str x5 t5,v5⟩,⟨h6,.str x6 t6,v6⟩,⟨h7,.str x7 t7,v7⟩,⟨h8,.str x8 t8,v8⟩,⟨h9,.str x9 t9,v9⟩,⟨h10,.str x10 t10,v10⟩,⟨h11,.str x11 t11,v11⟩,⟨h12,.str x12 t12,v12⟩,⟨h13,.str x13 t13,v13⟩,⟨h14,.str x14 t14,v14⟩,⟨h15,.str x15 t15,v15⟩] ep,#[]⟩) (e1:h1=hashStr w x1) (e2:h2=hashStr w x2) (e3:h3=hashStr w x3) (e4:h4=hashStr w x4) (e5:h5=hashStr w x5) (e6:h6=hashStr w x6) (e7:h7=hashStr w x7) (e8:h8=hashStr w x8) (e9:h9=hashStr w x9) (e10:h10=hashStr w x10) (e11:h11=hashStr w x11) (e12:h12=hashStr w x12) (e13:h13=hashStr w x13) (e14:h14=hashStr w x14) (e15:h15=hashStr w x15)
  (nd:([Sum.inr x1,Sum.inr x2,Sum.inr x3,Sum.inr x4,Sum.inr x5,Sum.inr x6,Sum.inr x7,Sum.inr x8,Sum.inr x9,Sum.inr x10,Sum.inr x11,Sum.inr x12,Sum.inr x13,Sum.inr x14,Sum.inr x15]:List Key).Nodup):TDi P w K a [(Sum.inr x1,v1),(Sum.inr x2,v2),(Sum.inr x3,v3),(Sum.inr x4,v4),(Sum.inr x5,v5),(Sum.inr x6,v6),(Sum.inr x7,v7),(Sum.inr x8,v8),(Sum.inr x9,v9),(Sum.inr x10,v10),(Sum.inr x11,v11),(Sum.inr x12,v12),(Sum.inr x13,v13),(Sum.inr x14,v14),(Sum.inr x15,v15)]:=
 tdiL hs l (.cons e1 (.cons e2 (.cons e3 (.cons e4 (.cons e5 (.cons e6 (.cons e7 (.cons e8 (.cons e9 (.cons e10 (.cons e11 (.cons e12 (.cons e13 (.cons e14 (.cons e15 .nil))))))))))))))) nd
end L2
namespace Sq
open PySem
noncomputable def dg (m:Int):List Nat:=(Str.ofString (toString m)).cps.toList
theorem Yl (m:Int):txt (dg m)=Str.ofString (toString m):=Uc _
noncomputable def fg (z:List Nat):List Nat:=if z.head?=some 45 then z.drop 1 else z
noncomputable def Zaq (m:Int):Bool:=
 let z:=dg m
 (intText? (txt z)==some m)&&decide (z.length<=4)&&decide (1<=(fg z).length)&&decide ((fg z).length<=3)&&(fg z).all (fun c=>decide (48<=c/\c<=57))&&z.all (fun c=>decide (c≠32/\c≠47))
  && (Txt.startswith (txt z) (Str.ofString "-")==decide (z.head?=some 45))&&((StrLaws.sliceText (txt z) (some 1) none).cps.toList==z.drop 1)
set_option maxHeartbeats 0 in
theorem Zfb:∀ k∈Y03 1999,Zaq ((k:Int)-999)=true:=by decide +kernel
structure Zi9 (m:Int):Prop where
 val:intText? (txt (dg m))=some m
 len:(dg m).length<=4
 pos:1<=(fg (dg m)).length
 few:(fg (dg m)).length<=3
 fig:∀ c∈fg (dg m),48<=c/\c<=57
 bl:32∉dg m
 ba:47∉dg m
 st:Txt.startswith (txt (dg m)) (Str.ofString "-")=decide ((dg m).head?=some 45)
 cut:StrLaws.sliceText (txt (dg m)) (some 1) none=txt ((dg m).drop 1)
theorem ZbE {m:Int}(h:m.natAbs<=999):Zi9 m:=by
 have e:Zaq m=true:=by
  have:=Zfb (m+999).toNat (Y08.mpr (by omega))
  rwa [show (((m+999).toNat:Nat):Int)-999=m by omega]at this
 unfold Zaq at e;simp only[Y2p,decide_eq_true_eq,beq_iff_eq,Y2d]at e;obtain⟨⟨⟨⟨⟨⟨⟨h1,h2⟩,h3⟩,h4⟩,h5⟩,h6⟩,h7⟩,h8⟩:=e;exact⟨h1,h2,h3,h4,h5,fun z=>(h6 _ z).1 rfl,fun z=>(h6 _ z).2 rfl,h7,by rw[<-h8,Uc]⟩
end Sq
namespace K1
open PySem L2 Sq
def Sh:Sp:=fun vs H Q _=>vs=[.bl true]/\Q .non H
noncomputable abbrev FG:Str:="0123456789"
theorem ZiL:FG=txt ((Y03 10).map (48 + ·)):=by decide +kernel
def spNi:Sp:=fun vs H Q _=>∃ m:Int,vs=[.str (txt (dg m))]/\m.natAbs<=999/\∀ H':Hp,Z7 H H'->Q (.int m) H'
theorem ZeB {K:Y00}{Hc:Hp}{z:List Nat}{S:Str}{j:Nat}{Q:VK}{σ:St}(hj:σ[j]?=some (some (.str (txt z))))(hn:z.length<=1000)
  (k:∀ (H':Hp) (d:Addr),Z7 Hc H'->H' d=some (.lst ((z.map fun c=>decide (c∈S.cps.toList)).map V.bl))->Q (.ref d) H') :
  YO (Sb (ZW j)) 1 [] (ZC 0) (tOp (fun x y H Q=>∃ i j,x=.str i/\y=.str j/\Q (.bl (!(Builtin.Str.occurrences j i 0 j.length 1).isEmpty)) H) (ZW 0) (tC (.str S))) σ Hc Q:=by
 refine⟨_,hj,txt z,rfl,fun d hd=>?_⟩;refine YR (Q:=fun d H'=>Q (.ref d) H') z.length ((z.map fun c=>decide (c∈S.cps.toList)).map V.bl) (by simp) (fun i σ H3=>∃ o,σ=[o]/\Z7 Hc H3) ⟨none,rfl,Z4 (Z7.refl _) hd⟩ ?_ ?_
 ·rintro i σ H3 hi ⟨o,rfl,s3⟩ hd3;refine⟨by show i<(txt z).length;rw[ZD];exact hi,fun y H4 ⟨e,c,hc,ey⟩=>?_⟩;subst e ey;rw[S8]at hc;refine⟨_,rfl,_,_,rfl,rfl,YN hi hn hd3 ?_ ⟨_,rfl,Z4 s3 hd⟩⟩;rw[StrLaws.found_one];simp[hc]
 ·rintro σ H3 ⟨o,rfl,s3⟩ hd3;exact⟨by show (txt z).length=_;rw[ZD],k H3 d s3 hd3⟩
theorem Zd5 {l:List Bool}(h:∀ x∈l,x=true):l.all id=true:=by
 rw[Y2d];exact h
theorem Zgu (z:List Nat):(fg z).length<=z.length:=by unfold fg;split<;>simp
noncomputable def sv (ws:List (List Nat)):List V:=ws.map fun z=>V.str (txt z)
theorem XB (ws:List (List Nat)):(sv ws).length=ws.length:=by simp[sv]
theorem ZaA (ws:List (List Nat)):(ws.map txt).map V.str=sv ws:=by simp[sv]
theorem Zaf {ws:List (List Nat)}{i:Nat}{z:List Nat}(h:ws[i]?=some z):(sv ws)[i]?=some (.str (txt z)):=by unfold sv;rw[Y0l,h];rfl
theorem ZgV {te:TE}{g:TG}{rest:L2.TS}{D:YZ}{σ:St}{H:Hp}{v:V}(h:∀ R:VK,R v H->te σ H R)(k:g v σ H (rest D)):Yh (Xv te g) rest D σ H:=h _ k
section
variable {P:Program}{w:World}{K:Y00}{mg:Str->Option Value}{base:Heap}
noncomputable abbrev n_ne:List Str:=["fits"]
theorem Zjb:ZO n_ne ["fits"] (Z0 Wl):=⟨rfl,rfl,rfl,by decide +kernel,rfl,by decide +kernel,by decide +kernel⟩
theorem Ziz {f:Addr}{fd:FuncData}(F:Fn K mg "need" Wl ["fits"] f fd):Z6 P w K mg base CX0 1 f fd ["fits"] Sh:=by
 refine F.F.ok Zjb (fun vs H Q E h=>?_) (fun cdv A outer s H vs Q E hr h=>?_)
 ·obtain⟨rfl,_⟩:=h;rfl
 ·obtain⟨rfl,k⟩:=h;refine⟨_,Z1 (Zu (Yt (YW (pv 0))) Yf Zr),?_⟩;exact⟨_,rfl,_,rfl,ZG k⟩
noncomputable abbrev n_ni:List Str:=["word","figures","number"]
theorem ZeK:ZO n_ni ["word"] (Z0 V1):=⟨rfl,rfl,rfl,by decide +kernel,rfl,by decide +kernel,by decide +kernel⟩
theorem Zir:(["figure"]:List Str).Nodup:=by decide +kernel
theorem Zij {f fn:Addr}{fd dn:FuncData}{tF tM:Tok}(T:Bi mg)(Ts:mg "str"=none)(w1p:mg "FIGURES"=some (.str FG tF))(w2y:mg "MOST_FIGURES"=some (.int 3 tM))(FNe:Fn K mg "need" Wl ["fits"] fn dn)(GNe:Z6 P w K mg base CX0 1 fn dn ["fits"] Sh)(F:Fn K mg "number_in" V1 ["word"] f fd):Z6 P w K mg base CX0 2 f fd ["word"] spNi:=by
 refine F.F.ok ZeK (fun vs H Q E h=>?_) (fun cdv A outer s H vs Q E hr h=>?_)
 ·obtain⟨m,rfl,_⟩:=h;rfl
 ·obtain⟨m,rfl,hm,k⟩:=h;have hr1:ZR 1 _:=hr.mono (by decide);refine⟨_,(Z5 (ZP (i:=1) ZeK.nd rfl (Or.inl rfl) (Tf (YW (Zg PySem.F.plainAttrs_str PySem.F.slot_str_startswith PySem.F.type_str_startswith Za0 (pv 0) (Z9 ZH Z8))) (UM Zhv (pv 0) (Ux Z3) Uq) (pv 0)))
   (Z5 (Y3 (ZU GNe hr1 rfl FNe.m FNe.F.kp FNe.b .nil ZX (Z9 (XN (Z6h Wi Wi Z3 (ZF U4 (by rfl) T.len PySem.boot_len (Z9 (pv 1) Z8)) (X6 (v:=.int 3) (by rfl) w2y ⟨_,rfl⟩)) (WY (ZF (U8 rfl) (by rfl) T.all US (Z9 (Y6 (N:=n_ni) (names:=(Z0 V1).names) (N':=["figure"]) (k:=1) (pull:=[]) (te:=tOp (fun x y H Q=>∃ i j,x=.str i/\y=.str j/\Q (.bl (!(Builtin.Str.occurrences j i 0 j.length 1).isEmpty)) H) (ZW 0) (tC (.str FG))) rfl ⟨by rfl,by decide +kernel,by decide +kernel,by rfl,by decide +kernel,by decide +kernel⟩ rfl rfl (Za9 (pv 1)) (fun _ _ _ _ _ _=>ZE (i:=0) Zir rfl (Or.inl rfl)) (fun _ _ _ _ _ _=>Ym Z7A (pv 0) (X6 (v:=.str FG) (by rfl) w1p ⟨_,rfl⟩) (by with_unfolding_all rfl))) Z8)))) Z8)))
   (Z5 (ZP (i:=2) ZeK.nd rfl (Or.inl rfl) (Y7 Z6p rfl T.int Z6s (Z9 (pv 0) Z8)))
   (Z5 (Y3 (ZU GNe hr1 rfl FNe.m FNe.F.kp FNe.b .nil ZX (Z9 (Ym Ze (Y7 Xb rfl Ts Xo (Z9 (pv 2) Z8)) (pv 0) (Zw _)) Z8)))
   (Z1 (ZS (pv 2))))))),?_⟩
  have N:=ZbE hm;have big:1000<=sizeLine:=by decide
  have hfl:=Zgu (dg m);have hl4:=N.len;refine ZgV (v:=.str (txt (fg (dg m)))) ?_ ?_
  ·intro R hR;refine⟨_,rfl,rfl,txt (dg m),_,rfl,rfl,_,rfl,?_⟩;rw[N.st];unfold fg at hR
   by_cases e:(dg m).head?=some 45
   ·rw[decide_eq_true e];rw[if_pos e]at hR;refine Zo ⟨_,rfl,_,rfl,_,rfl,?_,?_⟩
    ·rw[N.cut,ZD,List.length_drop];omega
    ·rw[N.cut];exact hR
   ·rw[decide_eq_false e];rw[if_neg e]at hR;exact ZG ⟨_,rfl,hR⟩
  dsimp only [ZC];have h1:=N.pos;have h3:=N.few;refine⟨_,rfl,_,rfl,by rw[ZD];omega,_,_,rfl,rfl,_,rfl,?_⟩;rw[ZD,decide_eq_true (show (1:Int)<=((fg (dg m)).length:Int) by omega)];refine Zo ⟨_,_,rfl,rfl,_,rfl,?_⟩;rw[decide_eq_true (show ((fg (dg m)).length:Int)<=3 by omega)];refine Zo ?_;dsimp only [tCB,ZM,Zx];refine ZeB (K:=K) rfl (by omega) fun H1 d s1 hd=>?_;have eA:((fg (dg m)).map fun c=>decide (c∈FG.cps.toList)).all id=true:=by
   refine Zd5 fun x hx=>?_;obtain⟨c,hc,rfl⟩:=Y0d.mp hx;refine decide_eq_true ?_;rw[ZiL,VJ];have:=N.fig c hc;exact Y0d.mpr ⟨c-48,Y08.mpr (by omega),by omega⟩
  refine⟨d,_,rfl,SqL.of hd,by rw[eA];rfl,?_⟩;refine⟨_,rfl,txt (dg m),m,rfl,N.val,by rw[ZD];omega,?_⟩;dsimp only [ZC];refine⟨_,rfl,m,rfl,Y2y (VD (by omega)) (by decide),_,rfl,rfl,?_,?_⟩
  ·show [V.bl (decide (V.str (Str.ofString (toString m))=V.str (txt (dg m))))]=_;rw[Yl,decide_eq_true rfl]
  exact⟨_,rfl,k H1 s1⟩
end
inductive Th:Str->List Nat->V->Prop
 | text {z:List Nat} (h:z≠[]):Th "text" z (.str (txt z))
 | side {z:List Nat} (h:txt z=Str.ofString "across"\/txt z=Str.ofString "up"):Th "side" z (.str (txt z))
 | num {m:Int} (h:m.natAbs<=999):Th "number" (dg m) (.int m)
inductive Ths:List Str->List (List Nat)->List V->Prop
 | nil:Ths [] [] []
 | cons {k:Str} {z:List Nat} {v:V} {ks:List Str} {zs:List (List Nat)} {vs:List V} (h:Th k z v) (r:Ths ks zs vs):Ths (k::ks) (z::zs) (v::vs)
theorem Ths.len {ks:List Str}{zs:List (List Nat)}{vs:List V}(h:Ths ks zs vs):ks.length=zs.length/\vs.length=zs.length:=by
 induction h with
 | nil=>exact⟨rfl,rfl⟩
 | cons h r ih=>simp[ih]
theorem Ths.get {ks:List Str}{zs:List (List Nat)}{vs:List V}(h:Ths ks zs vs):∀ {i:Nat},i<zs.length->∃ k z v,ks[i]?=some k/\zs[i]?=some z/\vs[i]?=some v/\Th k z v:=by
 induction h with
 | nil=>intro i hi;exact absurd hi (by simp)
 | cons h r ih=>
  intro i hi;cases i with
  | zero=>exact⟨_,_,_,rfl,rfl,rfl,h⟩
  | succ i=>exact ih (by simpa using hi)
theorem vne {a b:Str}(h:a≠b):decide (V.str a=V.str b)=false:=decide_eq_false fun e=>h (V.str.inj e)
theorem veq (a:Str):decide (V.str a=V.str a)=true:=decide_eq_true rfl
theorem Zh1 {z:List Nat}(h:z≠[]):txt z≠Str.ofString "":=by rw[VT];exact fun e=>h (ZfD e)
def Zi2:Sp:=fun vs H Q _=>∃ (k:Str) (z:List Nat) (v:V),vs=[.str (txt z),.str k]/\Th k z v/\∀ H':Hp,Z7 H H'->Q v H'
section
variable {P:Program}{w:World}{K:Y00}{mg:Str->Option Value}{base:Heap}
noncomputable abbrev n_ti:List Str:=["word","kind","number"]
theorem ZfU:ZO n_ti ["word","kind"] (Z0 UP):=⟨rfl,rfl,rfl,by decide +kernel,rfl,by decide +kernel,by decide +kernel⟩
theorem Ziq {f fn fi:Addr}{fd dn di:FuncData}(FNe:Fn K mg "need" Wl ["fits"] fn dn)(GNe:Z6 P w K mg base CX0 1 fn dn ["fits"] Sh)(FNi:Fn K mg "number_in" V1 ["word"] fi di)(GNi:Z6 P w K mg base CX0 2 fi di ["word"] spNi)(F:Fn K mg "thing_in" UP ["word","kind"] f fd):Z6 P w K mg base CX0 3 f fd ["word","kind"] Zi2:=by
 refine F.F.ok ZfU (fun vs H Q E h=>?_) (fun cdv A outer s H vs Q E hr h=>?_)
 ·obtain⟨k,z,v,rfl,_⟩:=h;rfl
 ·obtain⟨kn,z,v,rfl,hT,k⟩:=h;have hr1:ZR 1 _:=hr.mono (by decide);have two:2<=sizeLine:=by decide
  refine⟨_,(Z5 (Zu (Zt Ze (pv 1) ZH (Zw _)) (Z5 (Y3 (ZU GNe hr1 rfl FNe.m FNe.F.kp FNe.b .nil ZX (Z9 (Ym Vn (pv 0) ZH (Zw _)) Z8)))
   (Z1 (ZS (pv 0)))) Zr)
   (Z5 (Zu (Zt Ze (pv 1) ZH (Zw _)) (Z5 (Y3 (ZU GNe hr1 rfl FNe.m FNe.F.kp FNe.b .nil ZX (Z9 (Ym UW (pv 0) (Y2 (Z9 ZH (Z9 ZH Z8))) rfl) Z8)))
   (Z1 (ZS (pv 0)))) Zr)
   (Z5 (Zu (Zt Ze (pv 1) ZH (Zw _)) Yf Zr)
   (Z5 (Zu (Zt Ze (pv 1) ZH (Zw _)) Yf Zr)
   (Z5 (ZP (i:=2) ZfU.nd rfl (Or.inl rfl) (ZU GNi hr rfl FNi.m FNi.F.kp FNi.b .nil ZX (Z9 (pv 0) Z8)))
   (Z5 (Zu (Zt Ze (pv 1) ZH (Zw _)) Yf Zr)
   (Z5 (Zu (Zt Ze (pv 1) ZH (Zw _)) Yf Zr)
   (Z1 (ZS (pv 2)))))))))),?_⟩
  cases hT with
  | text hz=>
   refine⟨_,rfl,rfl,_,rfl,?_⟩;rw[veq];refine Zo ⟨_,rfl,rfl,?_,_,rfl,k H (Z7.refl H)⟩;show [V.bl (!decide (V.str (txt z)=V.str (Str.ofString "")))]=_;rw[vne (Zh1 hz)];rfl
  | side hz=>
   refine⟨_,rfl,rfl,_,rfl,?_⟩;rw[vne (by decide +kernel)];refine ZG ?_;refine⟨_,rfl,rfl,_,rfl,?_⟩;rw[veq];refine Zo ⟨_,rfl,two,fun tp htp=>?_⟩;refine⟨tp,_,rfl,.inr (SqT.of Z2),rfl,rfl,?_,_,rfl,k _ (Z4 (Z7.refl H) htp)⟩;show [V.bl (inV (V.str (txt z)) [V.str (Str.ofString "across"),V.str (Str.ofString "up")])]=_;rcases hz with hz|hz<;>rw[hz]<;>rfl
  | @num m hm=>
   refine⟨_,rfl,rfl,_,rfl,?_⟩;rw[vne (by decide +kernel)];refine ZG ?_;refine⟨_,rfl,rfl,_,rfl,?_⟩;rw[vne (by decide +kernel)];refine ZG ?_;refine⟨_,rfl,rfl,_,rfl,?_⟩;rw[vne (by decide +kernel)];refine ZG ?_;refine⟨_,rfl,rfl,_,rfl,?_⟩;rw[vne (by decide +kernel)];refine ZG ?_;refine⟨_,rfl,m,rfl,hm,fun H1 s1=>?_⟩;dsimp only [ZC];refine⟨_,rfl,rfl,_,rfl,?_⟩;rw[vne (by decide +kernel)];refine ZG ?_;refine⟨_,rfl,rfl,_,rfl,?_⟩;rw[vne (by decide +kernel)];refine ZG ?_;exact⟨_,rfl,k H1 s1⟩
end
end K1
namespace L2
open PySem PySem.Spec PyProof.Rows
section
variable {X:Cx}
def Zaw:V->List V->Hp->VK->Prop:=fun x vs H Q=>∃ (p:Addr) (r:List Nat) (i:Nat),x=.ref p/\vs=[.int (i:Int)]/\H p=some (.lst (nv r))/\i∈r/\Q (.int (r.idxOf i:Nat)) H
noncomputable def eInt (i:Int):Value->Bool
 | .int m _=>m==i
 | _=>false
theorem Z7i:MtR X "list.index" Zaw:=by
 intro pins s σ H x vs v us Q I rx rv h;obtain⟨p,r,i,rfl,rfl,hp,hi,q⟩:=h;cases rx;obtain⟨u,rfl,t,rfl⟩:=rv.one;obtain⟨z,its,n,r',hl,e⟩:=I.lstM hp;have hlen:its.length=r.length:=by rw[<-r'.length,ZQ]
 have item:∀ (j:Nat) (hj:j<its.length),∃ (m:Nat) (t:Tok),r[j]?=some m/\its[j]=.int (m:Int) t:=fun j hj=>by
  have hj':j<r.length:=by rw[<-hlen];exact hj
  obtain⟨u,hu,ru⟩:=r'.get (Zy (Y01 hj'));rw[Y01 hj]at hu;obtain⟨t,ht⟩:=ru;exact⟨_,t,Y01 hj',(Option.some.inj hu).trans ht⟩
 have hil:=Y1j hi;have hlt:r.idxOf i<its.length:=by rw[hlen];exact hil
 have hz63:(sizeLine:Nat)<=2^62:=by decide
 refine call_meets PySem.F.slot_list_index ⟨_,e,rfl⟩ PySem.F.entry_list_index (PySem.F.args_list_index_2 _ _) (SeqAt.list_indexAt p its.toArray n none #[] (.int (i:Int) t) (eInt (i:Int)) (r.idxOf i) (by rw[Y0e];exact hlt) (by
   have:nv r=nv r:=rfl
   have hl2:(nv r).length<=sizeLine:=z
   rw[ZQ]at hl2
   omega) ?_ (fun m hm hlt'=>?_)) ⟨e,fun y hy=>?_,?_⟩
 ·obtain⟨m,t',hm,ey⟩:=item _ hlt;rw[List.getElem_toArray,ey];rw[Y01 hil,Y41 hil]at hm;show ((m:Int)==(i:Int))=true;rw[<-Option.some.inj hm];simp
 ·have hm':m<its.length:=by simpa using hm
  obtain⟨k,t',hk,ey⟩:=item m hm';rw[List.getElem_toArray,ey];show ((k:Int)==(i:Int))=false;have hne:k≠i:=fun z=>Z7g r m i hlt' (by rw[<-z];exact hk);simp;omega
 ·have hy:y∈its:=by simpa using hy
  obtain⟨j,hj,ey⟩:=Y1g.mp hy;obtain⟨m,t',_,e2⟩:=item j hj;rw[<-ey,e2];exact SeqAt.EqAt.int_int (m:Int) t' (i:Int) t
 ·exact⟨.int (r.idxOf i:Nat),H,I.tok _,⟨_,rfl⟩,q⟩
end
theorem Zfu {X:Cx}{pins:List (Addr×Obj)}{σ:St}{H:Hp}{s:Shared}(I:Inv X pins σ H s){a:Addr}{xs ys:List V}(h1:SqL X.K H a xs)(h2:SqL X.K H a ys):ys=xs:=I.list_inj h2 h1
section
variable {X:Cx}{elts:List Expr}{k:Nat}{tpos:Pos}
theorem Zcx:bootBuiltins "zip"=some (.type "zip"):=by decide +kernel
end
structure Src (prog:Program)(w:World)(i:Addr)(fp:List Addr)(St:Nat->Heap->Prop)(xs:Array Value):Prop where
 item:∀ {A:Around} {E:Value->Shared->Prop} {s:Shared} {k:Nat} {x:Value} {Q:Value->Shared->Prop},St k s.heap->xs[k]?=some x->(∀ h',St (k+1) h'->Y3j i s.heap h'->Q x { s with heap:=h' })->
  wpAny (model prog w) A (Builtin.SmallTypes.nextOf (.ref i)) Q E s
 stop:∀ {A:Around} {E:Value->Shared->Prop} {s:Shared} {k:Nat} {Q:Value->Shared->Prop},A.handled=none->St k s.heap->xs[k]?=none->
  (∀ h' e,Heap.ExtBut i s.heap h'->(∃ o,h'.get? e=some o/\o.cls=.type "StopIteration")->E (.ref e) { s with heap:=h' })->wpAny (model prog w) A (Builtin.SmallTypes.nextOf (.ref i)) Q E s
 keep:∀ {h h':Heap} {k:Nat},St k h->(∀ c∈fp,∀ o,h.get? c=some o->h'.get? c=some o)->St k h'
 obj:∀ {h:Heap} {k:Nat},St k h->∃ o,h.get? i=some o
abbrev TSt (i t:Addr)(xs:Array Value)(k:Nat)(h:Heap):Prop:=h.IsTupleIter i t k/\h.IsTuple t xs
theorem ZaL {prog:Program}{w:World}{i t:Addr}{xs:Array Value}(hne:t≠i):Src prog w i [i,t] (TSt i t xs) xs where
 item:=fun {A E s k x Q} st hx q=>by
  obtain⟨hi,ht⟩:=st;obtain⟨o,ho,hc,hd⟩:=id hi;obtain⟨ot,hot,ct,nt,hdt⟩:=id ht;unfold Builtin.SmallTypes.nextOf;refine wpAny_bind (wpAny_callSpecial?_slot (name:=Str.ofString "__next__") hi.typeIs F.slot_tuple_iterator_next (wpAny_call_entry F.slot_tuple_iterator_next hi.typeIs F.entry_tuple_iterator_next ?_ (F.args_tuple_iterator_next_1 _)));show wpAny _ _ (field (.ref i) 0 >>= _) _ _ s;refine wpAny_bind (wpAny_field ho hd (x:=.ref t) rfl ?_);show wpAny _ _ (if (Value.ref t==Value.none)=true then _ else _) _ _ s;rw[if_neg (by exact Y0g)];show wpAny _ _ (field (.ref i) 1 >>= _) _ _ s;refine wpAny_bind (wpAny_field ho hd (x:=.int k 0) rfl ?_);show wpAny _ _ (seqItems? (.ref t) >>= _) _ _ s;refine wpAny_bind (wpAny_seqItems hot hdt ?_);simp only[Y0q,hx];refine wpAny_bind (wpAny_setField ho hd (by simp) (wpAny_pure ⟨x,rfl,wpAny_pure (q _ ⟨?_,?_⟩ (Heap.SameBut.update ..))⟩))
  ·exact⟨_,Y27 _ ho (Obj.isFreed_of_fields (Obj.data_mapFields hd _)),(Obj.cls_mapFields ..).trans hc,by rw[Obj.data_mapFields hd];simp[rawInt]⟩
  ·exact ht.extBut (Heap.SameBut.update ..).extBut hne
 stop:=fun {A E s k Q} hh st hx q=>by
  obtain⟨hi,ht⟩:=st;obtain⟨o,ho,hc,hd⟩:=id hi;obtain⟨ot,hot,ct,nt,hdt⟩:=id ht;unfold Builtin.SmallTypes.nextOf;refine wpAny_bind (wpAny_callSpecial?_slot (name:=Str.ofString "__next__") hi.typeIs F.slot_tuple_iterator_next (wpAny_call_entry F.slot_tuple_iterator_next hi.typeIs F.entry_tuple_iterator_next ?_ (F.args_tuple_iterator_next_1 _)));show wpAny _ _ (field (.ref i) 0 >>= _) _ _ s;refine wpAny_bind (wpAny_field ho hd (x:=.ref t) rfl ?_);show wpAny _ _ (if (Value.ref t==Value.none)=true then _ else _) _ _ s;rw[if_neg (by exact Y0g)];show wpAny _ _ (field (.ref i) 1 >>= _) _ _ s;refine wpAny_bind (wpAny_field ho hd (x:=.int k 0) rfl ?_);show wpAny _ _ (seqItems? (.ref t) >>= _) _ _ s;refine wpAny_bind (wpAny_seqItems hot hdt ?_);simp only[Y0q,hx];refine wpAny_bind (wpAny_rule (wpAny_bind (wpAny_setField ho hd (by simp) ?_)));show wpAny _ _ (newExc (.type "StopIteration") [] >>= _) _ _ _;refine wpAny_bind ?_;simp only[newExc,newTuple];refine wpAny_bind (wpAny_newObj_type ?_ (by size_fits));refine wpAny_bind (m:=firstArgMember _ _) (wpAny_of_eq (a:=Value.none) (by first|rfl|(simp only[firstArgMember];rfl)) ?_);refine wpAny_newObj_type ?_ (by size_fits);simp only[raiseNew];refine wpAny_bind (wpAny_handled ?_);rw[show A.in1.handled=none from hh];exact wpAny_bind (wpAny_pure (wpAny_throw (q _ _ (((Heap.SameBut.update ..).extBut.push _).push _) ⟨_,Y06 _ rfl,rfl⟩)))
 keep:=fun {h h' k} st kp=>by
  obtain⟨⟨o,ho,r⟩,⟨o',ho',r'⟩⟩:=st;exact⟨⟨o,kp i (by simp) o ho,r⟩,⟨o',kp t (by simp) o' ho',r'⟩⟩
 obj:=fun {h k} st=>let ⟨⟨o,ho,_⟩,_⟩:=st;⟨o,ho⟩
structure Se (z TI TO i1 i2:Addr)(f1 f2:List Addr):Prop where
 TIz:TI≠z
 TOz:TO≠z
 TITO:TI≠TO
 TIi1:TI≠i1
 TIi2:TI≠i2
 a1:∀ c∈f1,c≠z/\c≠TO/\c≠i2
 a2:∀ c∈f2,c≠z/\c≠TO/\c≠i1
 m1:i1∈f1
 m2:i2∈f2
section
variable {prog:Program}{w:World}{z TI TO i1 i2:Addr}{f1 f2:List Addr}{S1 S2:Nat->Heap->Prop}{xs ys:Array Value}
theorem Zar (D:Se z TI TO i1 i2 f1 f2)(C1:Src prog w i1 f1 S1 xs)(C2:Src prog w i2 f2 S2 ys){A:Around}{E:Value->Shared->Prop}{s:Shared}{k:Nat}{x y a b:Value}{Q:Value->Shared->Prop}
  (hz:IsZip s.heap z TI TO .none) (hTI:IsPair s.heap TI (.ref i1) (.ref i2)) (hTO:IsPair s.heap TO a b) (h1:S1 k s.heap) (h2:S2 k s.heap) (hx:xs[k]?=some x) (hy:ys[k]?=some y)
  (hQ:∀ h',IsZip h' z TI TO (rawInt s.heap.objs.size)->IsPair h' TO x y->S1 (k+1) h'->S2 (k+1) h'->IsPair h' s.heap.objs.size x y->
   (∀ c o,c∉[z,TO,i1,i2]->s.heap.get? c=some o->h'.get? c=some o)->Q (.ref s.heap.objs.size) { s with heap:=h' }) :
  wpAny (model prog w) A (Builtin.«zip.__next__» ⟨[.ref z],[]⟩) (fun fin s'=>∃ v,fin=.done (.ret v)/\Q v s') E s:=by
 have d1:=D.a1 _ D.m1;have d2:=D.a2 _ D.m2;show wpAny _ _ (field (.ref z) 2 >>= _) _ _ _;refine wpAny_bind (wpAny_field hz rfl (x:=.bool false) rfl ?_);show wpAny _ _ (field (.ref z) 3 >>= _) _ _ _;refine wpAny_bind (wpAny_field hz rfl (x:=.ref TI) rfl (wpAny_bind (wpAny_seqItems hTI rfl ?_)));show wpAny _ _ (Builtin.SmallTypes.ownedTupleIsFree (.ref z) >>= _) _ _ _;refine wpAny_bind ?_;unfold Builtin.SmallTypes.ownedTupleIsFree;refine wpAny_bind (wpAny_field hz rfl (x:=.none) rfl (wpAny_pure ?_));simp only[if_true];refine wpAny_bind (wpAny_rule (wpAny_bind (wpAny_field hz rfl (x:=.ref TO) rfl (wpAny_bind (wpAny_setField_rec hz (by simp) fun g1 z1 e1=>?_)))));replace z1:IsZip g1 z TI TO .ellipsis:=z1;have k1:S1 k g1:=C1.keep h1 fun c hc o e=>e1.extBut _ _ (D.a1 c hc).1 e;refine wpAny_bind ?_;simp only[List.zipIdx_cons,List.zipIdx_nil,Y2z,Y43];refine wpAny_bind (wpAny_bind (wpAny_onRaise ?_));show wpAny _ _ (Builtin.SmallTypes.nextOf (.ref i1) >>= _) _ _ _;refine wpAny_bind (C1.item (s:={ s with heap:=g1 }) k1 hx fun g2 k2 e2=>wpAny_pure ?_);have t2:IsPair g2 TO a b:=e2.extBut _ _ d1.2.1.symm (e1.extBut _ _ D.TOz hTO);refine wpAny_bind (wpAny_seqItems t2 rfl (wpAny_bind (wpAny_updateSeq_pair t2 fun g3 t3 e3=>?_)));replace t3:IsPair g3 TO x b:=t3;refine wpAny_bind (wpAny_letGo (wpAny_pure ?_));refine wpAny_bind (wpAny_bind (wpAny_onRaise ?_));show wpAny _ _ (Builtin.SmallTypes.nextOf (.ref i2) >>= _) _ _ _;have up3:∀ c o,c≠z->c≠i1->c≠TO->s.heap.get? c=some o->g3.get? c=some o:=fun c o c1 c2 c3 e=>e3.extBut _ _ c3 (e2.extBut _ _ c2 (e1.extBut _ _ c1 e));have k3:S2 k g3:=C2.keep h2 fun c hc o e=>up3 c o (D.a2 c hc).1 (D.a2 c hc).2.2 (D.a2 c hc).2.1 e;refine wpAny_bind (C2.item (s:={ s with heap:=g3 }) k3 hy fun g4 k4 e4=>wpAny_pure ?_);have t4:IsPair g4 TO x b:=e4.extBut _ _ d2.2.1.symm t3;refine wpAny_bind (wpAny_seqItems t4 rfl (wpAny_bind (wpAny_updateSeq_pair t4 fun g5 t5 e5=>?_)));replace t5:IsPair g5 TO x y:=t5;refine wpAny_bind (wpAny_letGo (wpAny_pure (wpAny_pure (wpAny_bind (wpAny_seqItems t5 rfl (wpAny_bind (wpAny_newTuple ?_)))))));have hsz:g5.objs.size=s.heap.objs.size:=by rw[e5.1,e4.1,e3.1,e2.1,e1.1]
 have z5:IsZip g5 z TI TO .ellipsis:=e5.extBut _ _ D.TOz.symm (e4.extBut _ _ d2.1.symm (e3.extBut _ _ D.TOz.symm (e2.extBut _ _ d1.1.symm z1)));have k15:S1 (k+1) g5:=C1.keep k2 fun c hc o e=>e5.extBut _ _ (D.a1 c hc).2.1 (e4.extBut _ _ (D.a1 c hc).2.2 (e3.extBut _ _ (D.a1 c hc).2.1 e));have k25:S2 (k+1) g5:=C2.keep k4 fun c hc o e=>e5.extBut _ _ (D.a2 c hc).2.1 e;have zlt:z<g5.objs.size:=Y0a z5;show wpAny _ _ (Builtin.SmallTypes.ownedTupleHandOut (.ref z) (.ref g5.objs.size) >>= _) _ _ _;refine wpAny_bind ?_;unfold Builtin.SmallTypes.ownedTupleHandOut;have z6:IsZip (g5.push { cls:=.type "tuple",data:=.seq #[x,y] }) z TI TO .ellipsis:=Y02 _ z5;refine wpAny_bind (wpAny_setField_rec z6 (by simp) fun g7 z7 e7=>?_);replace z7:IsZip g7 z TI TO (rawInt g5.objs.size):=z7;refine wpAny_setField_rec z7 (by simp) fun g8 z8 e8=>?_;replace z8:IsZip g8 z TI TO (rawInt g5.objs.size):=z8;have up:∀ c o,c≠z->g5.get? c=some o->g8.get? c=some o:=fun c o c1 e=>e8.extBut _ _ c1 (e7.extBut _ _ c1 (Y02 _ e));have t8:IsPair g8 g5.objs.size x y:=e8.extBut _ _ (Y2e zlt) (e7.extBut _ _ (Y2e zlt) (Y06 _ rfl));rw[hsz]at z8 t8;refine wpAny_pure ⟨_,rfl,?_⟩;show Q (.ref g5.objs.size) _;rw[hsz];refine hQ g8 z8 (up _ _ D.TOz t5) (C1.keep k15 fun c hc o e=>up c o (D.a1 c hc).1 e) (C2.keep k25 fun c hc o e=>up c o (D.a2 c hc).1 e) t8 fun c o hc e=>up c o (fun q=>hc (by simp[q])) ?_;exact e5.extBut _ _ (fun q=>hc (by simp[q])) (e4.extBut _ _ (fun q=>hc (by simp[q])) (up3 c o (fun q=>hc (by simp[q])) (fun q=>hc (by simp[q])) (fun q=>hc (by simp[q])) e))
theorem ZbI (D:Se z TI TO i1 i2 f1 f2)(C1:Src prog w i1 f1 S1 xs){A:Around}{E:Value->Shared->Prop}{s:Shared}{k:Nat}{a b:Value}{Q:PySem.Fin->Shared->Prop}(hh:A.handled=none)
  (hz:IsZip s.heap z TI TO .none) (hTI:IsPair s.heap TI (.ref i1) (.ref i2)) (h1:S1 k s.heap) (hx:xs[k]?=none)
  (hE:∀ h' e,(∀ c o,c∉[z,TO,i1,i2]->s.heap.get? c=some o->h'.get? c=some o)->(∃ o,h'.get? e=some o/\o.cls=.type "StopIteration")->E (.ref e) { s with heap:=h' }) :
  wpAny (model prog w) A (Builtin.«zip.__next__» ⟨[.ref z],[]⟩) Q E s:=by
 have d1:=D.a1 _ D.m1;show wpAny _ _ (field (.ref z) 2 >>= _) _ _ _;refine wpAny_bind (wpAny_field hz rfl (x:=.bool false) rfl ?_);show wpAny _ _ (field (.ref z) 3 >>= _) _ _ _;refine wpAny_bind (wpAny_field hz rfl (x:=.ref TI) rfl (wpAny_bind (wpAny_seqItems hTI rfl ?_)));show wpAny _ _ (Builtin.SmallTypes.ownedTupleIsFree (.ref z) >>= _) _ _ _;refine wpAny_bind ?_;unfold Builtin.SmallTypes.ownedTupleIsFree;refine wpAny_bind (wpAny_field hz rfl (x:=.none) rfl (wpAny_pure ?_));simp only[if_true];refine wpAny_bind (wpAny_rule (wpAny_bind (wpAny_field hz rfl (x:=.ref TO) rfl (wpAny_bind (wpAny_setField_rec hz (by simp) fun g1 z1 e1=>?_)))));replace z1:IsZip g1 z TI TO .ellipsis:=z1;have k1:S1 k g1:=C1.keep h1 fun c hc o e=>e1.extBut _ _ (D.a1 c hc).1 e;refine wpAny_bind ?_;simp only[List.zipIdx_cons,List.zipIdx_nil,Y2z,Y43];refine wpAny_bind (wpAny_bind (wpAny_onRaise ?_));show wpAny _ _ (Builtin.SmallTypes.nextOf (.ref i1) >>= _) _ _ _;refine wpAny_bind (C1.stop (s:={ s with heap:=g1 }) hh k1 hx fun g2 e e2 he=>?_);obtain⟨oe,hoe,hce⟩:=he;have z2:IsZip g2 z TI TO .ellipsis:=e2 _ _ d1.1.symm z1;have hez:e≠z:=fun q=>by subst q;rw[z2]at hoe;cases hoe;simp at hce
 exact wpAny_setField_rec z2 (by simp) fun g3 _ e3=>hE g3 e (fun c o hc q=>e3.extBut _ _ (fun q=>hc (by simp[q])) (e2 _ _ (fun q=>hc (by simp[q])) (e1.extBut _ _ (fun q=>hc (by simp[q])) q))) ⟨oe,e3.extBut _ _ hez hoe,hce⟩
end
section
variable {prog:Program}{w:World}{A:Around}{E:Value->Shared->Prop}{s:Shared}
end
section
variable {X:Cx}{elts:List Expr}{k:Nat}{tpos:Pos}
end
abbrev LSt (i t:Addr)(xs:Array Value)(k:Nat)(h:Heap):Prop:=h.IsListIter i t k/\h.IsList t xs
theorem Z9c {prog:Program}{w:World}{i t:Addr}{xs:Array Value}(hne:t≠i):Src prog w i [i,t] (LSt i t xs) xs where
 item:=fun {A E s k x Q} st hx q=>by
  obtain⟨hi,ht⟩:=st;obtain⟨o,ho,hc,hd⟩:=id hi;obtain⟨ot,hot,ct,nt,hdt⟩:=id ht;unfold Builtin.SmallTypes.nextOf;refine wpAny_bind (wpAny_callSpecial?_slot (name:=Str.ofString "__next__") hi.typeIs PySem.slot_listiter_next (wpAny_call_entry PySem.slot_listiter_next hi.typeIs PySem.entry_listiter_next ?_ (PySem.args_listiter_next _)));show wpAny _ _ (field (.ref i) 0 >>= _) _ _ s;refine wpAny_bind (wpAny_field ho hd (x:=.ref t) rfl ?_);show wpAny _ _ (if (Value.ref t==Value.none)=true then _ else _) _ _ s;rw[if_neg (by exact Y0g)];show wpAny _ _ (field (.ref i) 1 >>= _) _ _ s;refine wpAny_bind (wpAny_field ho hd (x:=.int k 0) rfl ?_);show wpAny _ _ (seqItems? (.ref t) >>= _) _ _ s;refine wpAny_bind (wpAny_seqItems hot hdt ?_);simp only[Y0q,hx];refine wpAny_bind (wpAny_setField ho hd (by simp) (wpAny_pure ⟨x,rfl,wpAny_pure (q _ ⟨?_,?_⟩ (Heap.SameBut.update ..))⟩))
  ·exact⟨_,Y27 _ ho (Obj.isFreed_of_fields (Obj.data_mapFields hd _)),(Obj.cls_mapFields ..).trans hc,by rw[Obj.data_mapFields hd];simp[rawInt]⟩
  ·exact ht.extBut (Heap.SameBut.update ..).extBut hne
 stop:=fun {A E s k Q} hh st hx q=>by
  obtain⟨hi,ht⟩:=st;obtain⟨o,ho,hc,hd⟩:=id hi;obtain⟨ot,hot,ct,nt,hdt⟩:=id ht;unfold Builtin.SmallTypes.nextOf;refine wpAny_bind (wpAny_callSpecial?_slot (name:=Str.ofString "__next__") hi.typeIs PySem.slot_listiter_next (wpAny_call_entry PySem.slot_listiter_next hi.typeIs PySem.entry_listiter_next ?_ (PySem.args_listiter_next _)));show wpAny _ _ (field (.ref i) 0 >>= _) _ _ s;refine wpAny_bind (wpAny_field ho hd (x:=.ref t) rfl ?_);show wpAny _ _ (if (Value.ref t==Value.none)=true then _ else _) _ _ s;rw[if_neg (by exact Y0g)];show wpAny _ _ (field (.ref i) 1 >>= _) _ _ s;refine wpAny_bind (wpAny_field ho hd (x:=.int k 0) rfl ?_);show wpAny _ _ (seqItems? (.ref t) >>= _) _ _ s;refine wpAny_bind (wpAny_seqItems hot hdt ?_);simp only[Y0q,hx];refine wpAny_bind (wpAny_rule (wpAny_bind (wpAny_setField ho hd (by simp) ?_)));show wpAny _ _ (newExc (.type "StopIteration") [] >>= _) _ _ _;refine wpAny_bind ?_;simp only[newExc,newTuple];refine wpAny_bind (wpAny_newObj_type ?_ (by size_fits));refine wpAny_bind (m:=firstArgMember _ _) (wpAny_of_eq (a:=Value.none) (by first|rfl|(simp only[firstArgMember];rfl)) ?_);refine wpAny_newObj_type ?_ (by size_fits);simp only[raiseNew];refine wpAny_bind (wpAny_handled ?_);rw[show A.in1.handled=none from hh];exact wpAny_bind (wpAny_pure (wpAny_throw (q _ _ (((Heap.SameBut.update ..).extBut.push _).push _) ⟨_,Y06 _ rfl,rfl⟩)))
 keep:=fun {h h' k} st kp=>by
  obtain⟨⟨o,ho,r⟩,⟨o',ho',r'⟩⟩:=st;exact⟨⟨o,kp i (by simp) o ho,r⟩,⟨o',kp t (by simp) o' ho',r'⟩⟩
 obj:=fun {h k} st=>let ⟨⟨o,ho,_⟩,_⟩:=st;⟨o,ho⟩
noncomputable abbrev zM1 (h:Heap)(l1:Addr):Heap:=h.push { cls:=.type "list_iterator",data:=.fields #[.ref l1,.int 0 0] }
noncomputable abbrev zM2 (h:Heap)(l1 l2:Addr):Heap:=(zM1 h l1).push { cls:=.type "tuple_iterator",data:=.fields #[.ref l2,.int 0 0] }
noncomputable abbrev zM3 (h:Heap)(l1 l2:Addr):Heap:=(zM2 h l1 l2).push { cls:=.type "tuple",data:=.seq #[.ref h.objs.size,.ref (zM1 h l1).objs.size] }
noncomputable abbrev zM4 (h:Heap)(l1 l2:Addr):Heap:=(zM3 h l1 l2).push { cls:=.type "tuple",data:=.seq #[.none,.none] }
noncomputable abbrev zM5 (h:Heap)(l1 l2:Addr):Heap:=(zM4 h l1 l2).push { cls:=.type "zip",data:=.fields #[.none,.bool false,.bool false,.ref (zM2 h l1 l2).objs.size,.ref (zM3 h l1 l2).objs.size] }
theorem Z9v (l1 l2:Addr)(xs ys:Array Value) :
  Meets (Builtin.«zip.__new__» ⟨[.type "zip",.ref l1,.ref l2],[]⟩) (fun _ R s=>s.heap.IsList l1 xs/\s.heap.IsTuple l2 ys/\
   R (.ok (.ret (.ref (zM4 s.heap l1 l2).objs.size))) { s with heap:=zM5 s.heap l1 l2 }):=
 .of_wp fun prog w A R s h=>by
  obtain⟨hp,g,d,tk,os⟩:=s;obtain⟨hl1,hl2,h⟩:=h;have hsub:=PySem.sub_zip;have hL1:Heap.IsList (Shared.heap ⟨hp,g,d,tk,os⟩) l1 xs:=hl1;have hL2:Heap.IsTuple (Shared.heap ⟨hp.push { cls:=.type "list_iterator",data:=.fields #[.ref l1,.int 0 0] },g,d,tk,os⟩) l2 ys:=Heap.IsTuple.push hl2 _
  wp_walk using wpAny_pyIter_list hL1,wpAny_pyIter_tuple hL2
  exact⟨_,rfl,h⟩
section
variable {prog:Program}{w:World}{A:Around}{E:Value->Shared->Prop}{s:Shared}
theorem ZaW {l1 l2:Addr}{xs ys:Array Value}{Q:Value->Shared->Prop}(hl1:s.heap.IsList l1 xs)(hl2:s.heap.IsTuple l2 ys)
  (h:∀ h',IsZip h' (s.heap.objs.size+4) (s.heap.objs.size+2) (s.heap.objs.size+3) .none->IsPair h' (s.heap.objs.size+2) (.ref s.heap.objs.size) (.ref (s.heap.objs.size+1))->
   IsPair h' (s.heap.objs.size+3) .none .none->h'.IsListIter s.heap.objs.size l1 0->h'.IsTupleIter (s.heap.objs.size+1) l2 0->
   (∀ c o,s.heap.get? c=some o->h'.get? c=some o)->Q (.ref (s.heap.objs.size+4)) { s with heap:=h' }) :
  wpAny (model prog w) A (call (.type "zip") [.ref l1,.ref l2]) Q E s:=by
 refine callType_new F.called_zip (by decide) (F.typeCall_zip_2 _ _) (F.newCall_zip_2 _ _) (fun obj=>F.args_object_init_3 obj _ _) F.entry_zip_new (Z9v l1 l2 xs ys) ⟨hl1,hl2,?_⟩;have z1:(zM1 s.heap l1).objs.size=s.heap.objs.size+1:=Y19 ..;have z2:(zM2 s.heap l1 l2).objs.size=s.heap.objs.size+2:=by rw[Y19,z1]
 have z3:(zM3 s.heap l1 l2).objs.size=s.heap.objs.size+3:=by rw[Y19,z2]
 have z4:(zM4 s.heap l1 l2).objs.size=s.heap.objs.size+4:=by rw[Y19,z3]
 have up:∀ {h:Heap} {c:Addr} {o:Obj} (p:Obj),h.get? c=some o->(h.push p).get? c=some o:=fun p e=>Y02 p e;have g5:(zM5 s.heap l1 l2).get? (zM4 s.heap l1 l2).objs.size=some _:=Y06 _ rfl;have g4:(zM5 s.heap l1 l2).get? (zM3 s.heap l1 l2).objs.size=some _:=up _ (Y06 _ rfl);have g3:(zM5 s.heap l1 l2).get? (zM2 s.heap l1 l2).objs.size=some _:=up _ (up _ (Y06 _ rfl));have g2:(zM5 s.heap l1 l2).get? (zM1 s.heap l1).objs.size=some _:=up _ (up _ (up _ (Y06 _ rfl)));have g1:(zM5 s.heap l1 l2).get? s.heap.objs.size=some _:=up _ (up _ (up _ (up _ (Y06 _ rfl))));show _/\_;rw[z2,z3,z4]at g5;rw[z1,z2]at g3;rw[z3]at g4;rw[z1]at g2;rw[z4];exact⟨⟨_,g5,rfl⟩,h _ g5 g3 g4 ⟨_,g1,rfl,rfl⟩ ⟨_,g2,rfl,rfl⟩ fun c o x=>up _ (up _ (up _ (up _ (up _ x))))⟩
end
noncomputable def Itzm (K:Y00)(l1 l2:Addr):It:=
 ⟨fun i H=>∃ xs ys x y,SqL K H l1 xs/\SqT K H l2 ys/\xs[i]?=some x/\ys[i]?=some y,
 fun i H x H'=>∃ T a b,H T=none/\x=.ref T/\(∀ xs,SqL K H l1 xs->xs[i]?=some a)/\(∀ ys,SqT K H l2 ys->ys[i]?=some b)/\H'=upd H T (Yq T [a,b]),
 fun i H=>∃ xs,SqL K H l1 xs/\xs.length=i⟩
abbrev ZmSx (z TI TO i1 i2 l1 l2:Addr)(i:Nat)(h:Heap):Prop:=IsZip h z TI TO .none/\IsPair h TI (.ref i1) (.ref i2)/\(∃ a b,IsPair h TO a b)/\h.IsListIter i1 l1 i/\h.IsTupleIter i2 l2 i
theorem Zan {P:Program}{w:World}{K:Y00}{elts:List Expr}{k:Nat}{pos:Pos}(z TI TO i1 i2 l1 l2:Addr)(D:Se z TI TO i1 i2 [i1,l1] [i2,l2])(n1:l1≠i1)(n2:l2≠i2) :
  WO P w K (.Tuple elts k pos) (Itzm K l1 l2) [z,TI,TO,i1,i2] z (ZmSx z TI TO i1 i2 l1 l2) where
 mem:=by simp
 obj:=fun i h st b hb=>by
  obtain⟨hz,hTI,⟨a,b',hTO⟩,⟨o1,e1,c1,d1⟩,⟨o2,e2,c2,d2⟩⟩:=st;simp at hb;rcases hb with rfl|rfl|rfl|rfl|rfl
  ·exact⟨_,hz,fun v z=>nomatch z⟩
  ·exact⟨_,hTI,fun v z=>nomatch z⟩
  ·exact⟨_,hTO,fun v z=>nomatch z⟩
  ·exact⟨_,e1,fun v z=>by rw[d1]at z;cases z⟩
  ·exact⟨_,e2,fun v z=>by rw[d2]at z;cases z⟩
 keep:=fun i h h' st kp=>by
  obtain⟨hz,hTI,⟨a,b,hTO⟩,h1,h2⟩:=st;exact⟨kp z (by simp) _ hz,kp TI (by simp) _ hTI,⟨a,b,kp TO (by simp) _ hTO⟩,h1.at fun o e=>kp i1 (by simp) o e,h2.at fun o e=>kp i2 (by simp) o e⟩
 item:=by
  intro X hP hw hK hc i pins s σ H E I hf st hg;subst hP hw hK;obtain⟨xs,ys,x,y,hx,hy,gx,gy⟩:=hg;obtain⟨ix,rx,px,zx⟩:=I.list hx;obtain⟨iy,ry,py,zy⟩:=I.tuple hy;obtain⟨u,hu,ru⟩:=rx.get gx;obtain⟨v,hv,rv⟩:=ry.get gy;obtain⟨hz,hTI,⟨ta,tb,hTO⟩,h1,h2⟩:=id st;have hT:s.TypeIs (.ref z) "zip":=⟨_,hz,rfl⟩;have lt:∀ {c o},s.heap.get? c=some o->s.heap.objs.size≠c:=fun e=>Y2e (Y0a e);unfold pyNext;refine wpAny_bind (wpAny_attempt (wpAny_callSpecial?_slot (name:=Str.ofString "__next__") hT F.slot_zip_next (wpAny_call_entry F.slot_zip_next hT F.entry_zip_next
   (Zar (S1:=LSt i1 l1 ix.toArray) (S2:=TSt i2 l2 iy.toArray) D (Z9c n1) (ZaL n2) hz hTI hTO ⟨h1,px.isList⟩ ⟨h2,py⟩ (by simpa using hu) (by simpa using hv) fun h' a1 a2 a3 a4 a5 hk=>wpAny_pure ⟨.ref s.heap.objs.size,rfl,?_⟩) (F.args_zip_next_1 _))))
  refine wpAny_letOwnedTupleGo_zip (s:={ s with heap:=h' }) a1 fun h'' z2 e2=>?_;have up2:∀ c o,c≠z->h'.get? c=some o->h''.get? c=some o:=fun c o hc e=>e2.extBut _ _ hc e;have up:∀ c o,c∉[z,TO,i1,i2]->s.heap.get? c=some o->h''.get? c=some o:=fun c o hc e=>up2 c o (fun q=>hc (by simp[q])) (hk c o hc e);have htup2:IsTup h'' s.heap.objs.size #[u,v]:=⟨_,up2 _ _ (lt hz) a5,rfl,_,rfl⟩;have d1:=D.a1 i1 (by simp);have d2:=D.a2 i2 (by simp);refine⟨.ref s.heap.objs.size,upd H s.heap.objs.size (Yq s.heap.objs.size [x,y]),?_,rfl,⟨_,x,y,I.hok.fresh (Y04 _),rfl,fun zs hzs=>by rw[Zfu I hx hzs];exact gx,fun zs hzs=>by rw[I.tuple_inj hzs hy];exact gy,rfl⟩,
   ⟨z2,up _ _ (by simp[D.TIz,D.TITO,D.TIi1,D.TIi2]) hTI,⟨_,_,up2 _ _ D.TOz a2⟩,a3.1.at fun o e=>up2 _ o d1.1 e,a4.1.at fun o e=>up2 _ o d2.1 e⟩,fun b hb=>?_⟩
  ·refine I.turnLaid (s:=s) (h':=h'') (t':=s.toks) hf (Y04 _) (fun b ob hb q=>?_) (ZaV ⟨by show 2<=sizeLine;decide,[u,v],.cons ru (.cons rv .nil),htup2⟩);exact up b ob (fun z=>hb (by simp at z ⊢;rcases z with h|h|h|h<;>simp[h])) q
  ·have hbT:b≠s.heap.objs.size:=fun zz=>by
    have:b<s.heap.objs.size:=by
     obtain⟨o1,q1,_⟩:=h1;obtain⟨o2,q2,_⟩:=h2;simp at hb;rcases hb with rfl|rfl|rfl|rfl|rfl
     ·exact Y0a hz
     ·exact Y0a hTI
     ·exact Y0a hTO
     ·exact Y0a q1
     ·exact Y0a q2
    rw[zz]at this;exact Y1o _ this
   rw[ZZ hbT];exact (hf b hb).1
 done:=by
  intro X hP hw hK hc i pins s σ H E I hf st hs;subst hP hw hK;obtain⟨xs,hx,hle⟩:=hs;obtain⟨ix,rx,px,zx⟩:=I.list hx;obtain⟨hz,hTI,⟨ta,tb,hTO⟩,h1,h2⟩:=id st;have hT:s.TypeIs (.ref z) "zip":=⟨_,hz,rfl⟩;unfold pyNext;refine wpAny_bind (wpAny_attempt (wpAny_callSpecial?_slot (name:=Str.ofString "__next__") hT F.slot_zip_next (wpAny_call_entry F.slot_zip_next hT F.entry_zip_next
   (ZbI (a:=ta) (b:=tb) (S1:=LSt i1 l1 ix.toArray) D (Z9c n1) (I.ok.hd hc) hz hTI ⟨h1,px.isList⟩ (by simp;rw[<-rx.length,hle];exact Y04 _) fun h' e hk he=>?_) (F.args_zip_next_1 _))))
  obtain⟨o,ho,hce⟩:=he;refine wpAny_bind (wpAny_isInstance (T:="StopIteration") (b:=true) ⟨o,ho,hce⟩ isSubtype_stop ?_);refine wpAny_pure ⟨rfl,?_⟩;exact I.turnedL hf fun b ob hb q=>hk b ob (fun z=>hb (by simp at z ⊢;rcases z with h|h|h|h<;>simp[h])) q
 self:=fun A i s Q E st h=>wpAny_pyIter_zip st.1 h
section
variable {X:Cx}{elts:List Expr}{k:Nat}{tpos:Pos}
noncomputable def Zht (K:Y00)(ta:TA):TI:=fun σ H R=>ta σ H fun vs H1=>∃ a b,vs=[.ref a,.ref b]/\(∃ xs,SqL K H1 a xs)/\(∃ ys,SqT K H1 b ys)/\R (Itzm K a b) H1
theorem Zf2 {l1 l2:Expr}{ta:TA}{p pos:Pos}(hg:Gl X "zip")(hm:X.mg "zip"=none)(ha:PA X [l1,l2] ta)(hs:starEach [l1,l2] X.env=[(false,eval l1 X.env),(false,eval l2 X.env)]:=by rfl)(hs2:starEach [l2] X.env=[(false,eval l2 X.env)]:=by rfl) :
  PI X (.Tuple elts k tpos) (.Call (.Name "zip" p) [l1,l2] [] pos) (Zht X.K ta):=by
 intro pins s σ H R I h;refine Call_ (Wo I hg hm Zcx (PyProof.Rows.callWith_type1 (thn (ha pos pins s σ H _ I h) fun us s1 ⟨vs,H1,I1,r1,q1⟩=>?_) (by rw[hs,hs2]) (by rw[hs2];rfl)));obtain⟨a,b,rfl,⟨xs,hx⟩,⟨ys,hy⟩,q⟩:=q1;obtain⟨u,v,rfl,ru,rv⟩:=ZgY r1;obtain rfl:u=Value.ref a:=ru;obtain rfl:v=Value.ref b:=rv;obtain⟨ix,rx,px,zx⟩:=I1.list hx;obtain⟨iy,ry,py,zy⟩:=I1.tuple hy;have ha:a<s1.heap.objs.size:=by obtain⟨o,ho,_⟩:=px.isList;exact Y0a ho
 have hb:b<s1.heap.objs.size:=by obtain⟨o,ho,_⟩:=id py;exact Y0a ho
 refine ZaW px.isList py fun h' q1 q2 q3 q4 q5 hk=>?_;refine wpAny_pyIter_zip q1 ?_;have I2:Inv X pins σ H1 { s1 with heap:=h' }:=I1.kept (t':=s1.toks) hk;have ha':∀ k:Nat,a≠s1.heap.objs.size+k:=fun k=>Y0j (Y0i ha (Nat.le_add_right _ k));have hb':∀ k:Nat,b≠s1.heap.objs.size+k:=fun k=>Y0j (Y0i hb (Nat.le_add_right _ k));have nn:∀ i j:Nat,i≠j->s1.heap.objs.size+i≠s1.heap.objs.size+j:=fun i j h z=>h (Nat.add_left_cancel z);have D:Se (s1.heap.objs.size+4) (s1.heap.objs.size+2) (s1.heap.objs.size+3) s1.heap.objs.size (s1.heap.objs.size+1) [s1.heap.objs.size,a] [s1.heap.objs.size+1,b]:=by
  refine⟨nn 2 4 (by decide),nn 3 4 (by decide),nn 2 3 (by decide),nn 2 0 (by decide),nn 2 1 (by decide),fun c hc=>?_,fun c hc=>?_,by simp,by simp⟩
  ·simp at hc;rcases hc with rfl|rfl
   ·exact⟨nn 0 4 (by decide),nn 0 3 (by decide),nn 0 1 (by decide)⟩
   ·exact⟨ha' 4,ha' 3,ha' 1⟩
  ·simp at hc;rcases hc with rfl|rfl
   ·exact⟨nn 1 4 (by decide),nn 1 3 (by decide),nn 1 0 (by decide)⟩
   ·exact⟨hb' 4,hb' 3,hb' 0⟩
 refine⟨s1.heap.objs.size+4,[s1.heap.objs.size+4,s1.heap.objs.size+2,s1.heap.objs.size+3,s1.heap.objs.size,s1.heap.objs.size+1],_,_,H1,rfl,I2,Zan _ _ _ _ _ _ _ D (ha' 0) (hb' 1),⟨q1,q2,⟨_,_,q3⟩,q4,q5⟩,fun c hc=>?_,q⟩;have hle:s1.heap.objs.size<=c:=by
  simp at hc;rcases hc with rfl|rfl|rfl|rfl|rfl<;>(show s1.heap.objs.size<=_;omega)
 exact I1.fpOk hle (I1.hok.fresh hle)
end
end L2
namespace K1
open PySem L2 Sq
def WW (kv:List (Key×Value))(K:Y00)(z:List Nat)(asked:List V):Prop:=∃ (w0:List Nat) (ws:List (List Nat)) (ks:List Str) (a:Addr) (vs:List V),YK 32 (w0::ws)=z/\(∀ y∈w0::ws,32∉y)/\z.length<=1000/\ws.length<=10/\valueAt kv (Sum.inr (txt w0):Key)=some (.ref a)/\TTs K a ks/\Ths ks ws vs/\asked=.str (txt w0)::vs
def spTs (kv:List (Key×Value))(K:Y00):Sp:=fun vs H Q _=>∃ (z:List Nat) (asked:List V),vs=[.str (txt z)]/\WW kv K z asked/\∀ (H':Hp) (l:Addr),Z7 H H'->H l=none->H' l=some (.lst asked)->Q (.ref l) H'
section
variable {P:Program}{w:World}{K:Y00}{mg:Str->Option Value}{base:Heap}
noncomputable abbrev n_ts:List Str:=["row","words","kinds"]
theorem ZeC:ZO n_ts ["row"] (Z0 VZ):=⟨rfl,rfl,rfl,by decide +kernel,rfl,by decide +kernel,by decide +kernel⟩
theorem ZgP:(["word","kind"]:List Str).Nodup:=by decide +kernel
set_option maxHeartbeats 1000000 in
theorem ZjF {f fn fi:Addr}{fd dn di:FuncData}{kv:List (Key×Value)}{dK:Addr}(T:Bi mg)(w2Q:mg "zip"=none)(w2h:mg "KINDS"=some (.ref dK))(hD:TDi P w K dK kv)(FNe:Fn K mg "need" Wl ["fits"] fn dn)(GNe:Z6 P w K mg base CX0 1 fn dn ["fits"] Sh)(FTi:Fn K mg "thing_in" UP ["word","kind"] fi di)(GTi:Z6 P w K mg base CX0 3 fi di ["word","kind"] Zi2)(F:Fn K mg "things_in" VZ ["row"] f fd):Z6 P w K mg base CX0 4 f fd ["row"] (spTs kv K):=by
 refine F.F.ok ZeC (fun vs H Q E h=>?_) (fun cdv A outer s H vs Q E hr h=>?_)
 ·obtain⟨z,asked,rfl,_⟩:=h;rfl
 ·obtain⟨z,asked,rfl,⟨w0,ws,ks,a,vs,ez,hb,hz,hw,hv,hT,hTh,rfl⟩,k⟩:=h;have hr1:ZR 1 _:=hr.mono (by decide);have one:1<=sizeLine:=by decide
  have big:1000<=sizeLine:=by decide
  obtain⟨hk1,hk2⟩:=hTh.len;refine⟨_,(Z5 (ZP (i:=1) ZeC.nd rfl (Or.inl rfl) (Zg PySem.F.plainAttrs_str PySem.F.slot_str_split PySem.F.type_str_split Z94 (pv 0) (Z9 ZH Z8)))
   (Z5 (Y3 (ZU GNe hr1 rfl FNe.m FNe.F.kp FNe.b .nil ZX (Z9 (Ym ZfQ (ZY Zs (pv 1) Z3 (fun _ _=>rfl)) (X6 (v:=.ref dK) (by rfl) w2h rfl) rfl) Z8)))
   (Z5 (ZP (i:=2) ZeC.nd rfl (Or.inl rfl) (ZcX (X6 (v:=.ref dK) (by rfl) w2h rfl) (ZY Zs (pv 1) Z3 (fun _ _=>rfl)) (fun _ _=>rfl)))
   (Z5 (Y3 (ZU GNe hr1 rfl FNe.m FNe.F.kp FNe.b .nil ZX (Z9 (Ym Ze (ZF Zk rfl T.len PySem.boot_len (Z9 (pv 1) Z8)) (ZJ Xf (ZF Zk rfl T.len PySem.boot_len (Z9 (pv 2) Z8)) Z3) (Zw _)) Z8)))
   (Z1 (ZS (ZJ Ze0 (Y8 (Z9 (ZY Zs (pv 1) Z3 (fun _ _=>rfl)) Z8)) (Y6 (N:=n_ts) (names:=(Z0 VZ).names) (N':=["word","kind"]) (k:=2) (pull:=[]) (te:=Yz Zi2 [] E0 (ZM (ZW 0) (ZM (ZW 1) Zx))) rfl ⟨by rfl,by decide +kernel,by decide +kernel,by rfl,by decide +kernel,by decide +kernel⟩ rfl rfl (Zf2 rfl w2Q (Z9 (UM Z8i (pv 1) (Ux Z3) Uq) (Z9 (pv 2) Z8))) (fun _ _ _ _ _ _=>Uy (n:=2) rfl (YG (ZE (i:=0) ZgP rfl (Or.inl rfl)) (YG (ZE (i:=1) ZgP rfl (Or.inl rfl)) Xn))) (fun _ _ _ _ _ _=>(ZU GTi hr rfl FTi.m FTi.F.kp FTi.b .nil ZX (Z9 (pv 0) (Z9 (pv 1) Z8)))))))))))),?_⟩
  refine⟨_,rfl,rfl,_,_,rfl,rfl,by decide,by rw[ZD];omega,fun l hl=>?_⟩;have hsp:Txt.split (txt z) (Str.ofString " ")=(w0::ws).map txt:=by
   rw[YD];exact Z8z (by simp) hb ez
  rw[hsp];have em:((w0::ws).map txt).map V.str=sv (w0::ws):=by simp[sv]
  rw[em];have s1:Z7 H (upd H l (.lst (sv (w0::ws)))):=Z4 (Z7.refl H) hl;have hw1:(upd H l (.lst (sv (w0::ws)))) l=some (.lst (sv (w0::ws))):=Z2;generalize upd H l (.lst (sv (w0::ws)))=H1 at s1 hw1;dsimp only [ZC];refine⟨_,rfl,l,_,0,_,rfl,rfl,SqL.of hw1,ZV (j:=0) rfl,dK,kv,Sum.inr (txt w0),rfl,rfl,hD,?_,?_⟩
  ·rw[hv];rfl
  refine⟨_,rfl,l,_,0,_,rfl,rfl,SqL.of hw1,ZV (j:=0) rfl,dK,kv,Sum.inr (txt w0),.ref a,.ref a,rfl,rfl,hD,hv,rfl,?_⟩;dsimp only [ZC];refine⟨_,rfl,l,_,rfl,.inl (SqL.of hw1),_,rfl,a,_,rfl,.inr (hT.sq H1),_,_,rfl,rfl,rfl,?_,?_⟩
  ·show [V.bl (decide (V.int ((sv (w0::ws)).length:Int)=V.int (((ks.map V.str).length:Int)+1)))]=_;rw[XB,Y05,hk1,decide_eq_true (by simp)]
  refine⟨_,rfl,l,_,0,_,rfl,rfl,SqL.of hw1,ZV (j:=0) rfl,one,fun p hp=>?_⟩;have s2:=Z4 (o:=.lst [V.str (txt w0)]) (Z7.refl H1) hp;have hp2:(upd H1 p (.lst [V.str (txt w0)])) p=some (.lst [V.str (txt w0)]):=Z2;generalize upd H1 p (.lst [V.str (txt w0)])=H2 at s2 hp2;dsimp only [YO,Zht,ZM,Zx,tSl,ZfV,ZaU];refine⟨_,rfl,_,rfl,l,_,rfl,SqL.of (s2 _ _ hw1),fun l2 hl2=>?_⟩;have ec:Yi (sv (w0::ws)) (some 1) none=sv ws:=by
   unfold Yi;have h1:HT.sIx (sv (w0::ws)).length 0 (some 1)=min 1 (sv (w0::ws)).length:=HT.sIx_nat _ 0 1;have h2:HT.sIx (sv (w0::ws)).length (sv (w0::ws)).length none=(sv (w0::ws)).length:=rfl;rw[h1,h2,XB];simp only[sv,Y0w,Y0f];rw[show min 1 (ws.length+1)=1 by omega];simp only[List.drop_succ_cons,List.drop_zero,Nat.add_sub_cancel];exact List.take_of_length_le (by rw[Y05];exact Y04 _)
  rw[ec];have s3:=Z4 (o:=.lst (sv ws)) (Z7.refl H2) hl2;have hw3:(upd H2 l2 (.lst (sv ws))) l2=some (.lst (sv ws)):=Z2;generalize upd H2 l2 (.lst (sv ws))=H3 at s3 hw3;refine⟨_,rfl,l2,a,rfl,⟨_,SqL.of hw3⟩,⟨_,hT.sq H3⟩,fun d hd=>?_⟩;refine YR (Q:=fun d H'=>rCat (.ref p) (.ref d) H' Q) ws.length vs hk2 (fun i σ H4=>∃ o1 o2,σ=[o1,o2]/\Z7 H3 H4) ⟨_,_,rfl,Z4 (Z7.refl _) hd⟩ ?_ ?_
  ·rintro i σ H4 hi ⟨o1,o2,rfl,s4⟩ hd4;obtain⟨kn,y,v,g1,g2,g3,hth⟩:=hTh.get hi;have hw4:=SqL.of (K:=K) (s4 _ _ hw3);have e1:(sv ws)[i]?=some (.str (txt y)):=(by unfold sv;rw[Y0l,g2];rfl);have e2:(ks.map V.str)[i]?=some (.str kn):=(by rw[Y0l,g1];rfl);refine⟨⟨_,_,_,_,hw4,hT.sq H4,e1,e2⟩,fun x H5 ⟨T',a',b',hT',ex,q1,q2,eH⟩=>?_⟩;have q1:=q1 _ hw4;have q2:=q2 _ (hT.sq H4);rw[e1]at q1;rw[e2]at q2;cases q1;cases q2;subst ex eH;refine⟨T',_,rfl,Z2,rfl,_,_,rfl,_,_,rfl,rfl,?_⟩;refine⟨_,rfl,_,rfl,kn,y,v,rfl,hth,fun H6 s6=>?_⟩;have s5:=Z4 (o:=Yq T' [V.str (txt y),V.str kn]) (Z7.refl H4) hT';have s7:=s4.trans (s5.trans s6);exact YN hi (by omega) ((s5.trans s6) _ _ hd4) g3 ⟨_,_,rfl,Z4 s7 hd⟩
  ·rintro σ H4 ⟨o1,o2,rfl,s4⟩ hd4;refine⟨⟨_,SqL.of (s4 _ _ hw3),XB ws⟩,?_⟩;refine⟨p,d,_,_,rfl,rfl,s4 _ _ (s3 _ _ hp2),hd4,by show 1+vs.length<=_;omega,fun q hq=>?_⟩;have sA:=s1.trans (s2.trans (s3.trans s4));exact k _ q (Z4 sA (sA.free hq)) (sA.free hq) Z2
end
end K1
namespace Sq
theorem ZfY {l:List Nat}{g:Nat->Nat}{i x:Nat}(h:l[i]?=some x):nx (l.map g) i=g x:=by
 simp[nx,Y3b,h]
theorem ZeT {n:Nat}{l l':List Nat}(hl:l.length=n)(hl':l'.length=n)(h:∀ i,i<n->nx l i=nx l' i):l=l':=by
 refine List.ext_getElem (by lia) fun i h1 h2=>?_;have:=h i (by lia)
 simpa [nx,Y3b,Y01 h1,Y01 h2] using this
section
variable {n:Nat}{r f:List Nat}
theorem Zb2 (hf:Row n f):back (back f)=f:=by
 refine ZeT (n:=n) (by rw[Tb,Tb,hf.len]) hf.len fun i hi=>?_;rw[VM hf.back hi];have e:nx (back f) (nx f i)=i:=by rw[VM hf (hf.nlt hi)];exact hf.idx_nx hi
 exact hf.back.inj (hf.back.idx_lt hi) (hf.nlt hi) (by rw[hf.back.nx_idx hi,e])
theorem Zf1 (hf:Row n f){i:Nat}(hi:i<n):nx (back f) (nx f i)=i:=by rw[VM hf (hf.nlt hi)];exact hf.idx_nx hi
theorem Zdc (hf:Row n f){i:Nat}(hi:i<n):nx f (nx (back f) i)=i:=by rw[VM hf hi];exact hf.nx_idx hi
theorem Zeo {l:List Nat}(hl:l.length=n)(lt:∀ i,i<n->nx l i<n)(inj:∀ i j,i<n->j<n->nx l i=nx l j->i=j):Row n l where
 len:=hl
 nd:=by
  refine Y25.mpr fun i j hi hj hij e=>?_;have:=inj i j (by lia) (by lia) (by simp[nx,Y3b,Y01 hi,Y01 hj,e]);lia
 lt:=fun x hx=>by
  obtain⟨i,hi,e⟩:=Y1g.mp hx;have:=lt i (by lia)
  rwa [show nx l i=x from by simp[nx,Y3b,Y01 hi,e]]at this
end
end Sq
namespace Sq
noncomputable def it (w:List Nat)(x:Nat):Nat->Nat
 | 0=>x
 | i+1=>nx w (it w x i)
structure Cyc (w:List Nat)(x:Nat)(M:List Nat):Prop where
 pos:1<=M.length
 is:M=(Y03 M.length).map (it w x)
 back:it w x M.length=x
 new:∀ i,1<=i->i<M.length->it w x i≠x
theorem Cyc.unique {w:List Nat}{x:Nat}{M M':List Nat}(h:Cyc w x M)(h':Cyc w x M'):M=M':=by
 have e:M.length=M'.length:=by
  rcases Y3h M.length M'.length with c|c|c
  ·exact absurd h.back (h'.new _ h.pos c)
  ·exact c
  ·exact absurd h'.back (h.new _ h'.pos c)
 rw[h.is,h'.is,e]
section
variable {n:Nat}{w:List Nat}
theorem Y4 (rw':Row n w){x:Nat}(hx:x<n):∀ i,it w x i<n
 | 0=>hx
 | i+1=>rw'.nlt (Y4 rw' hx i)
theorem Z57 (rw':Row n w){x:Nat}(hx:x<n):∀ i j,it w x (i+j)=it w x i->it w x j=x
 | 0,j,h=>by simpa [it] using h
 | i+1,j,h=>by
  have e:it w x (i+1+j)=nx w (it w x (i+j)):=by rw[show i+1+j=(i+j)+1 from by lia];rfl
  rw[e]at h;exact Z57 rw' hx i j (rw'.inj (Y4 rw' hx _) (Y4 rw' hx _) h)
theorem Z9b (rw':Row n w){x k:Nat}(hx:x<n)(h:∀ i,1<=i->i<k->it w x i≠x):((Y03 k).map (it w x)).Nodup:=by
 refine Y2l.mpr (List.Pairwise.imp_of_mem (R:=fun a b=>a<b) (fun {a b} ha hb hab e=>?_) Y2s);have hb:=Y08.mp hb;have:=Z57 rw' hx a (b-a) (by rw[show a+(b-a)=b from by lia];exact e.symm);exact h (b-a) (by lia) (by lia) this
theorem Wk (rw':Row n w){x k:Nat}(hx:x<n)(h:∀ i,1<=i->i<k->it w x i≠x):k<=n:=by
 have:=XE _ (Y03 n) (Z9b rw' hx h) fun y hy=>by
  obtain⟨i,_,rfl⟩:=Y0d.mp hy;exact Y08.mpr (Y4 rw' hx i)
 simpa using this
theorem Cyc.nd (rw':Row n w){x:Nat}(hx:x<n){M:List Nat}(h:Cyc w x M):M.Nodup:=by
 rw[h.is];exact Z9b rw' hx h.new
theorem Cyc.len (rw':Row n w){x:Nat}(hx:x<n){M:List Nat}(h:Cyc w x M):M.length<=n:=Wk rw' hx h.new
theorem Cyc.get {x:Nat}{M:List Nat}(h:Cyc w x M){i:Nat}(hi:i<M.length):M[i]?=some (it w x i):=by
 rw[h.is];simp[hi]
theorem Cyc.lt (rw':Row n w){x:Nat}(hx:x<n){M:List Nat}(h:Cyc w x M):∀ y∈M,y<n:=fun y hy=>by
 rw[h.is]at hy;obtain⟨i,_,rfl⟩:=Y0d.mp hy;exact Y4 rw' hx i
theorem Cyc.next {x:Nat}{M:List Nat}(h:Cyc w x M){i y:Nat}(hi:M[i]?=some y):M[(i+1)%M.length]?=some (nx w y):=by
 have hl:=(Y07.mp hi).1;have e:y=it w x i:=by have:=h.get hl;rw[hi]at this;exact Option.some.inj this
 subst e;rcases Y0x (i+1) M.length with c|c
 ·rw[Nat.mod_eq_of_lt c,h.get c];rfl
 ·have:i+1=M.length:=by lia
  rw[this,Nat.mod_self,h.get h.pos];have hb:=h.back;rw[<-this]at hb;show some x=some (nx w (it w x i));rw[show nx w (it w x i)=it w x (i+1) from rfl,hb]
theorem Yd (x:Nat)(i:Nat):∀ j,it w x (i+j)=it w (it w x i) j
 | 0=>rfl
 | j+1=>by show nx w (it w x (i+j))=nx w (it w (it w x i) j);rw[Yd x i j]
end
end Sq
namespace K1
open PySem L2 Sq
def Zcg (K:Y00):Sp:=fun vs H Q _=>∃ (p:Addr) (n:Nat) (r:List Nat) (x:Nat),vs=[.ref p,.int (x:Int)]/\X5 K H p r/\Row n r/\x<n/\n<=36/\
 ∀ (H':Hp) (l:Addr) (M:List Nat),Z7 H H'->H l=none->H' l=some (.lst (nv M))->Cyc r x M->Q (.ref l) H'
noncomputable def muL (l:Addr)(H:Hp):Nat:=match H l with
 | some (.lst xs)=>100-xs.length
 | _=>0
theorem VC {l:Addr}{H:Hp}{xs:List V}(h:H l=some (.lst xs)):muL l H=100-xs.length:=by unfold muL;rw[h]
theorem Z7Q {M:List Nat}{k y:Nat}(hk:M.length=k+1)(h:M[k]?=some y):atI (nv M) (-1)=some (.int (y:Int)):=by
 unfold atI ixN;rw[if_neg (by decide),if_pos (by rw[ZQ];omega)];show (nv M)[((-1:Int)+((nv M).length:Int)).toNat]?=_;rw[ZQ,hk,show ((-1:Int)+((k+1:Nat):Int)).toNat=k from by omega];exact Zy h
theorem Zds {K:Y00}{x y:V}{H:Hp}{Q Q':VK}(h:∀ v H1,Q v H1->Q' v H1)(q:rIx K x y H Q):rIx K x y H Q':=by
 rcases q with ⟨a,xs,i,v,q1,q2,q3,q4,q⟩|⟨a,xs,i,v,q1,q2,q3,q4,q⟩|⟨z,i,v,q1,q2,q3,q4,q⟩
 ·exact .inl ⟨a,xs,i,v,q1,q2,q3,q4,h _ _ q⟩
 ·exact .inr (.inl ⟨a,xs,i,v,q1,q2,q3,q4,h _ _ q⟩)
 ·exact .inr (.inr ⟨z,i,v,q1,q2,q3,q4,h _ _ q⟩)
section
variable {P:Program}{w:World}{K:Y00}{mg:Str->Option Value}{base:Heap}
noncomputable abbrev nCy:List Str:=["row","first","met"]
theorem scCy:ZO nCy ["row","first"] (Z0 U0):=⟨rfl,rfl,rfl,by decide +kernel,rfl,by decide +kernel,by decide +kernel⟩
theorem ZeO {f:Addr}{fd:FuncData}(F:Fn K mg "cycle_from" U0 ["row","first"] f fd):Z6 P w K mg base CX0 1 f fd ["row","first"] (Zcg K):=by
 refine F.F.ok scCy (fun vs H Q E h=>?_) (fun cdv A outer s H vs Q E hr h=>?_)
 ·obtain⟨p,n,r,x,rfl,_⟩:=h;rfl
 ·obtain⟨p,n,r,x,rfl,hp,rr,hx,hn,k⟩:=h;refine⟨_,Z5 (ZP (i:=2) scCy.nd rfl (Or.inl rfl) (Y8 (Z9 (pv 1) Z8)))
   (Z5 (W3 PassesOwn.never (Zt Vn (ZY Vu (pv 0) (ZY Zs (pv 2) (Ya Yc Z3) (fun _ _=>rfl)) (fun _ _=>rfl)) (pv 1) (Zw _))
    (Z1 (Y3 (Zg PySem.F.plainAttrs_list PySem.F.slot_list_append PySem.F.type_list_append YU (pv 2) (Z9 (ZY Vu (pv 0) (ZY Zs (pv 2) (Ya Yc Z3) (fun _ _=>rfl)) (fun _ _=>rfl)) Z8)))))
   (Z1 (ZS (pv 2)))),?_⟩
  refine⟨_,rfl,(by show 1<=sizeLine;decide),fun l hl=>?_⟩;refine WA (fun σ H2=>∃ k,σ=[some (.ref p),some (.int (x:Int)),some (.ref l)]/\Z7 H H2/\H2 l=some (.lst (nv ((Y03 (k+1)).map (it r x))))/\∀ i,1<=i->i<k+1->it r x i≠x) (fun _ H=>muL l H) ?_ ?_ ?_
  ·exact⟨0,rfl,Z4 (Z7.refl H) hl,Z2,fun i h1 h2=>absurd h2 (by omega)⟩
  ·rintro σ H2 ⟨kk,rfl,s2,h2,new⟩;have hlen:=Wk rr hx new;have hM:((Y03 (kk+1)).map (it r x)).length=kk+1:=(by simp);have hlast:=Z7Q hM (show ((Y03 (kk+1)).map (it r x))[kk]?=some (it r x kk) by simp);have hlt:=Y4 rr hx kk;refine⟨_,rfl,_,rfl,_,rfl,l,_,_,_,rfl,rfl,SqL.of h2,hlast,?_⟩;refine T1 (hp.same s2) rr hlt ?_;refine⟨_,rfl,rfl,_,rfl,?_⟩
   by_cases e:nx r (it r x kk)=x
   ·refine So (by rw[e]) ?_;refine⟨_,rfl,k H2 l _ s2 hl h2 ⟨by rw[hM];omega,by rw[hM],by rw[hM];exact e,by rw[hM];exact new⟩⟩
   ·rw[decide_eq_false (by intro z;have:=V.int.inj z;exact e (by omega))];refine Zo ?_;refine⟨_,rfl,.inl ⟨rfl,_,SqL.of h2⟩,_,rfl,_,rfl,_,rfl,l,_,_,_,rfl,rfl,SqL.of h2,hlast,?_⟩;refine T1 (hp.same s2) rr hlt ?_;refine⟨l,_,_,rfl,rfl,h2,by rw[ZQ,hM];exact Zj (by omega),?_⟩;have e2:nv ((Y03 (kk+1)).map (it r x))++[.int ((nx r (it r x kk):Nat):Int)]=nv ((Y03 (kk+1+1)).map (it r x)):=by
     rw[XD,Y1i (n:=kk+1),Y0t];rfl
    rw[e2];refine⟨⟨kk+1,rfl,Z4 s2 hl,Z2,fun i h1 h2'=>?_⟩,?_⟩
    ·rcases Y0x i (kk+1) with c|c
     ·exact new i h1 c
     ·have:i=kk+1:=(by omega);subst this;exact e
    ·rw[VC Z2,VC h2,ZQ,ZQ,hM];simp;omega
  ·rintro σ H Q Q' h h2;obtain⟨v,e1,v1,e2,v2,e3,q⟩:=h2;refine⟨v,e1,v1,e2,v2,e3,?_⟩;obtain⟨a,xs,i,v,q1,q2,q3,q4,q⟩:=q;refine⟨a,xs,i,v,q1,q2,q3,q4,?_⟩;exact Zds (fun x H1 ⟨v',e,q5,w',e',q6⟩=>⟨v',e,q5,w',e',h _ _ q6⟩) q
end
end K1
namespace Sq
noncomputable def per (n:Nat)(w:List Nat)(x:Nat):Nat:=((Y03 n).find? fun k=>decide (it w x (k+1)=x)).getD 0+1
noncomputable def cyc (n:Nat)(w:List Nat)(x:Nat):List Nat:=(Y03 (per n w x)).map (it w x)
noncomputable def Zq (n:Nat)(w:List Nat)(x:Nat):Bool:=decide (∀ y∈cyc n w x,x<=y)
noncomputable def Zp (n:Nat)(w:List Nat):List (List Nat):=((Y03 n).filter (Zq n w)).map (cyc n w)
section
variable {n:Nat}{w:List Nat}
theorem Vv (rw':Row n w){x:Nat}(hx:x<n):it w x (per n w x)=x/\∀ i,1<=i->i<per n w x->it w x i≠x:=by
 unfold per;cases h:(Y03 n).find? fun k=>decide (it w x (k+1)=x) with
 | none=>
  have:=List.find?_eq_none.mp h;have:=Wk (k:=n+1) rw' hx fun i h1 h2 e=>by
   refine this (i-1) (Y08.mpr (by lia)) ?_;rw[show i-1+1=i from by lia];exact decide_eq_true e
  lia
 | some k=>
  obtain⟨h1,as,bs,h2,h3⟩:=List.find?_eq_some_iff_append.mp h;refine⟨of_decide_eq_true h1,fun i hi hlt e=>?_⟩;have hlt:i<k+1:=hlt;have hk:as.length=k:=by
   have hl:as.length<n:=by
    have:=congrArg Y1k h2;simp at this;lia
   have e1:(Y03 n)[as.length]?=some k:=(by rw[h2];simp);rw[Y21 hl]at e1;exact Option.some.inj e1
  have hi':i-1<as.length:=by lia
  have hl:as.length<=n:=by
   have:=congrArg Y1k h2;simp at this;lia
  have e2:as[i-1]?=some (i-1):=by
   have:(Y03 n)[i-1]?=as[i-1]?:=(by rw[h2,Y0z hi']);rw[<-this,Y21 (by lia)]
  have:=h3 (i-1) (Y0o e2);rw[show i-1+1=i from by lia,e]at this;simp at this
theorem Wx (n:Nat)(w:List Nat)(x:Nat):(cyc n w x).length=per n w x:=by simp[cyc]
theorem YT (rw':Row n w){x:Nat}(hx:x<n):Cyc w x (cyc n w x):=by
 obtain⟨h1,h2⟩:=Vv rw' hx;refine⟨by rw[Wx];unfold per;lia,by rw[Wx];rfl,by rw[Wx];exact h1,by rw[Wx];exact h2⟩
theorem Cyc.eq (rw':Row n w){x:Nat}(hx:x<n){M:List Nat}(h:Cyc w x M):M=cyc n w x:=h.unique (YT rw' hx)
theorem UE (rw':Row n w){x:Nat}(hx:x<n):(cyc n w x)[0]?=some x:=(YT rw' hx).get (YT rw' hx).pos
theorem Xz (rw':Row n w){x:Nat}(hx:x<n):∀ i,it w x i∈cyc n w x
 | 0=>Y0o (UE rw' hx)
 | i+1=>by
  obtain⟨j,hj,e⟩:=Y1g.mp (Xz rw' hx i);have:=(YT rw' hx).next (i:=j) (y:=it w x i) (by rw[Y01 hj,e]);exact Y0o this
theorem Ws (rw':Row n w){x y:Nat}(h:y∈cyc n w x):∃ i,i<per n w x/\y=it w x i:=by
 obtain⟨i,hi,rfl⟩:=Y0d.mp h;exact⟨i,Y08.mp hi,rfl⟩
theorem XO (rw':Row n w){x y:Nat}(hx:x<n)(h:y∈cyc n w x):y<n:=(YT rw' hx).lt rw' hx y h
theorem Zfc (rw':Row n w){x:Nat}(hx:x<n){i:Nat}(hi:i<=per n w x):it w (it w x i) (per n w x-i)=x:=by
 rw[<-Yd,show i+(per n w x-i)=per n w x from by lia];exact (Vv rw' hx).1
theorem Ti (rw':Row n w){x y:Nat}(hx:x<n)(h:y∈cyc n w x):x∈cyc n w y:=by
 obtain⟨i,hi,rfl⟩:=Ws rw' h;have:=Xz rw' (Y4 rw' hx i) (per n w x-i)
 rwa [Zfc rw' hx (Y14 hi)]at this
theorem Z4J (rw':Row n w){x y z:Nat}(hx:x<n)(h:y∈cyc n w x)(h':z∈cyc n w y):z∈cyc n w x:=by
 obtain⟨i,_,rfl⟩:=Ws rw' h;obtain⟨j,_,rfl⟩:=Ws rw' h';rw[<-Yd];exact Xz rw' hx _
theorem Z9e:∀ (l:List Nat),l≠[]->∃ m∈l,∀ y∈l,m<=y
 | [],h=>absurd rfl h
 | [a],_=>⟨a,by simp,by simp⟩
 | a::b::l,_=>by
  obtain⟨m,hm,h⟩:=Z9e (b::l) (by simp);rcases Y0x m a with c|c
  ·refine⟨m,Y0r _ hm,fun y hy=>?_⟩;rcases Y0k.mp hy with e|hy
   ·rw[e];lia
   ·exact h y hy
  ·refine⟨a,by simp,fun y hy=>?_⟩;rcases Y0k.mp hy with e|hy
   ·rw[e];lia
   ·have:=h y hy;lia
theorem W6 {x:Nat}:Zq n w x=true↔∀ y∈cyc n w x,x<=y:=decide_eq_true_iff
theorem UF (rw':Row n w){x:Nat}(hx:x<n):∃ l,l<n/\Zq n w l=true/\x∈cyc n w l:=by
 obtain⟨m,hm,h⟩:=Z9e (cyc n w x) (fun e=>by have:=UE rw' hx;rw[e]at this;simp at this);have hmn:=XO rw' hx hm;exact⟨m,hmn,W6.mpr fun y hy=>h y (Z4J rw' hx hm hy),Ti rw' hx hm⟩
theorem V8 (rw':Row n w){x l l':Nat}(hl:l<n)(hl':l'<n)(h1:Zq n w l=true)(h2:Zq n w l'=true)(h:x∈cyc n w l)(h':x∈cyc n w l'):l=l':=by
 have a:=W6.mp h1 l' (Z4J rw' hl h (Ti rw' hl' h'));have b:=W6.mp h2 l (Z4J rw' hl' h' (Ti rw' hl h));lia
theorem Z3p (rw':Row n w):(Zp n w).flatten.Perm (Y03 n):=by
 refine (Y32 ?_ Y1y).mpr fun x=>?_
 ·refine List.pairwise_flatten.mpr ⟨fun l hl=>?_,?_⟩
  ·obtain⟨x,hx,rfl⟩:=Y0d.mp hl;have hx:=Y08.mp (Y0s.mp hx).1;exact (YT rw' hx).nd rw' hx
  ·refine Y2l.mpr ?_;have:((Y03 n).filter (Zq n w)).Pairwise (· < ·):=List.Pairwise.filter _ Y2s;refine this.imp_of_mem fun {a b} ha hb hab x hx y hy e=>?_;obtain⟨a1,a2⟩:=Y0s.mp ha;obtain⟨b1,b2⟩:=Y0s.mp hb;subst e;have:=V8 rw' (Y08.mp a1) (Y08.mp b1) a2 b2 hx hy;lia
 ·constructor
  ·intro h;obtain⟨l,hl,hx⟩:=Y1z.mp h;obtain⟨a,ha,rfl⟩:=Y0d.mp hl;exact Y08.mpr (XO rw' (Y08.mp (Y0s.mp ha).1) hx)
  ·intro h;obtain⟨l,h1,h2,h3⟩:=UF rw' (Y08.mp h);exact Y1z.mpr ⟨_,Y0d.mpr ⟨l,Y0s.mpr ⟨Y08.mpr h1,h2⟩,rfl⟩,h3⟩
end
end Sq
namespace L2
open PySem PySem.Spec PyProof.Rows
section
variable {X:Cx}
end
theorem Zbz (val:Nat->Int):∀ n:Nat,argBest (fun i j=>decide (val i<val j)) n<=n/\∀ j,j<=n->val (argBest (fun i j=>decide (val i<val j)) n)<=val j
 | 0=>⟨Y04 _,fun j hj=>by (have:j=0:=(by lia);subst this;exact Int.le_refl _)⟩
 | n+1=>by
  obtain⟨h1,h2⟩:=Zbz val n;show (if decide (val (n+1)<val (argBest (fun i j=>decide (val i<val j)) n))=true then n+1 else argBest (fun i j=>decide (val i<val j)) n)<=n+1/\_;show _/\∀ j,j<=n+1->val (if decide (val (n+1)<val (argBest (fun i j=>decide (val i<val j)) n))=true then n+1 else argBest (fun i j=>decide (val i<val j)) n)<=val j
  by_cases c:val (n+1)<val (argBest (fun i j=>decide (val i<val j)) n)
  ·rw[if_pos (decide_eq_true c)];refine⟨Y04 _,fun j hj=>?_⟩;rcases Y0x j (n+1) with d|d
   ·have:=h2 j (by lia);lia
   ·have:j=n+1:=(by lia);subst this;exact Int.le_refl _
  ·rw[if_neg (by rw[decide_eq_true_iff];exact c)];refine⟨by lia,fun j hj=>?_⟩;rcases Y0x j (n+1) with d|d
   ·exact h2 j (by lia)
   ·have:j=n+1:=(by lia);subst this;lia
section
variable {X:Cx}
theorem ZcF:bootBuiltins "min"=some (.builtin "min"):=by decide +kernel
theorem Zbv (hc:X.calm=true):YM X (.builtin "min") (fun xs H Q=>∃ (p:Addr) (ns:List Int),xs=[.ref p]/\SqL X.K H p (ns.map V.int)/\ns≠[]/\∀ m,m∈ns->(∀ y∈ns,m<=y)->Q (.int m) H):=by
 intro pins s σ H xs us Q I r h;obtain⟨p,ns,rfl,hq,hne,q⟩:=h;obtain⟨u,rfl,ru⟩:=YE r;obtain rfl:u=Value.ref p:=ru;obtain⟨its,rv,pl,hz⟩:=I.list hq;have hL:=pl.isList;have hlt:p<s.heap.objs.size:=by obtain⟨o,ho,_⟩:=id hL;exact Y0a ho
 have hlen:its.length=ns.length:=by rw[<-rv.length];simp
 have hpos:0<ns.length:=List.length_pos_iff.mpr hne;have hval:∀ i v,its.toArray[i]?=some v->∃ t,v=Value.int (ns.getD i 0) t:=fun i v hP=>by
  have hv:its[i]?=some v:=by simpa using hP
  have hi:i<ns.length:=by rw[<-hlen];exact (Y07.mp hv).1
  have hb:(ns.map V.int)[i]?=some (.int ns[i]):=by simp[hi]
  obtain⟨u,hu,t,rfl⟩:=rv.get hb;rw[hv]at hu;cases hu;exact⟨t,by simp[Y0h,hi]⟩
 refine call_min_walk (wpAny_pyIter_list hL ⟨s.heap.objs.size,_,_,its.toArray.size,_,_,_,rfl,Walks.list (A:=X.A.in1) (I.ok.hd hc) s.heap.objs.size p (Y0j hlt) its.toArray,⟨⟨_,Y06 _ rfl,rfl,rfl⟩,hL.push _⟩,fun b hb=>?_,by rw[Y0e];lia,CmpOf.ints_lt (fun i=>ns.getD i 0) hval,fun v h' tk hP hk=>?_⟩)
 ·rw[Y19];simp at hb;rcases hb with rfl|rfl
  ·exact Y1t _
  ·exact Y1b hlt
 ·obtain⟨t,rfl⟩:=hval _ v hP;obtain⟨b1,b2⟩:=Zbz (fun i=>ns.getD i 0) (its.toArray.size-1);rw[Y0e,hlen]at b1 b2 hP ⊢;generalize argBest (fun i j=>decide (ns.getD i 0<ns.getD j 0)) (ns.length-1)=k at b1 b2 hP ⊢;have hk':k<ns.length:=by lia
  refine⟨.int (ns.getD k 0),H,?_,⟨t,rfl⟩,q _ ?_ fun y hy=>?_⟩
  ·refine I.kept fun b o e=>hk b o (fun hb=>?_) (Y02 _ e);have:=Y0a e;simp at hb;rw[hb]at this;exact Y1o _ this
  ·simp[Y0h,hk']
  ·obtain⟨j,hj,rfl⟩:=Y1g.mp hy;have:=b2 j (by lia)
   simpa [Y0h,hj] using this
end
theorem Z58 {prog:Program}{w:World}{A:Around}{R:Result->Shared->Prop}{s:Shared}{elt target iter cnd:Expr}{scope:Scope}{pos:Pos}{it acc:Value}{env:Env}(I:Nat->Shared->Prop)
  (turn:∀ n s,I n s->wpAny (model prog w) A (pyNext it) (fun r s₁=>match r with
   | none=>R (.ok .next) s₁
   | some v=>wpAny (model prog w) A (letOwnedTupleGo target it v) (fun _ s₀=>wpAny (model prog w) A (assign target env v) (fun _ s₂=>
     wpAny (model prog w) A (isTrue cnd env (eval cnd env)) (fun ok s₃=>if ok=true then
     wpAny (model prog w) A (eval elt env) (fun x s₄=>
       wpAny (model prog w) A (call (.builtin "list.append") [acc,x]) (fun _ s₅=>∃ m,m<n/\I m s₅) (notedBy (model prog w) A env fun e s'=>R (.error e) s') s₄) (notedBy (model prog w) A env fun e s'=>R (.error e) s') s₃
      else ∃ m,m<n/\I m s₃) (notedBy (model prog w) A env fun e s'=>R (.error e) s') s₂)
     (notedBy (model prog w) A env fun e s'=>R (.error e) s') s₀) (notedBy (model prog w) A env fun e s'=>R (.error e) s') s₁) (notedBy (model prog w) A env fun e s'=>R (.error e) s') s)
  (n:Nat) (h:I n s) :
  codeAny (model prog w) A (.compLoop (.ListComp elt [⟨target,iter,[cnd],0⟩] scope pos) 0 it acc env) R s:=by
 refine codeAny_loop rfl I (fun n s hI=>?_) n h;show wpAny _ A ((compTurn (.ListComp elt [⟨target,iter,[cnd],0⟩] scope pos) 0 it acc env).onRaise (fun x=>do noteFrame x env;theTreesLotGoes x)) _ _ s;refine wpAny_noted ?_;rw[compTurn_list];refine wpAny_bind (wpAny_standAt (wpAny_bind (wpAny_mono (turn n s hI) (fun r s₁ h₁=>?_) fun _ _ h'=>h')));cases r with
 | none=>exact wpAny_pure h₁
 | some v=>
  refine wpAny_bind (wpAny_mono h₁ (fun _ s₀ h₀=>?_) fun _ _ h'=>h');refine wpAny_bind (wpAny_mono h₀ (fun _ s₂ h₂=>wpAny_bind (wpAny_tests_one (wpAny_mono h₂ (fun ok s₃ h₃=>?_) fun _ _ h'=>h'))) fun _ _ h'=>h');cases ok with
  | false=>exact wpAny_pure ⟨rfl,by simpa using h₃⟩
  | true=>
   have h₃:=(show wpAny _ _ _ _ _ _ from by simpa using h₃);exact wpAny_bind (wpAny_bind (wpAny_mono h₃ (fun x s₄ h₄=>wpAny_bind (wpAny_mono h₄ (fun _ s₅ h₅=>wpAny_pure (wpAny_pure ⟨rfl,h₅⟩)) fun _ _ h'=>h')) fun _ _ h'=>h'))
noncomputable def Wy (wi:TI)(k:Nat)(pull:List Nat)(g:TG)(tt:TT)(te:TE):TE:=fun σ H Q=>wi σ H fun J H1=>∀ d,H1 d=none->
 ∃ W:Nat->Nat->St->Hp->Prop,(∃ m,W 0 m (bst k pull σ) (upd H1 d (.lst [])))/\∀ i m σ' H',W i m σ' H'->
  (J.stop i H'/\Q (.ref d) H')\/
  (J.go i H'/\∀ x H2,J.yld i H' x H2->g x σ' H2 fun σ3 H3=>tt σ3 H3 fun b H4=>if b=true then te σ3 H4 fun y H5=>∃ xs,H5 d=some (.lst xs)/\xs.length<sizeLine/\∃ m',m'<m/\W (i+1) m' σ3 (upd H5 d (.lst (xs++[y])))
   else ∃ m',m'<m/\W (i+1) m' σ3 H4)
section
variable {X:Cx}{elt tg iter cnd:Expr}{sc:Scope}{pos:Pos}{wi:TI}{g:TG}{tt:TT}{te:TE}{N:List Str}{names:List (Str×NameKind)}{N':List Str}{k:Nat}{pull:List Nat}
theorem Z7o (hc:X.calm=true)(B:Uj N names N' k pull sc)(hN:X.N=N)(hnm:X.env.scope.names=names)(hi:PI X tg iter wi)
  (hg:∀ cl C s₂ H₁ fp pins,PG (blk X sc cl C N' s₂ H₁ fp pins) tg g) (hcn:∀ cl C s₂ H₁ fp pins,PT (blk X sc cl C N' s₂ H₁ fp pins) cnd tt) (he:∀ cl C s₂ H₁ fp pins,PE (blk X sc cl C N' s₂ H₁ fp pins) elt te)
  (hs:∀ x,foldedSetIterable iter X.env x=pure x:=by intro _;rfl):PE X (.ListComp elt [⟨tg,iter,[cnd],0⟩] sc pos) (Wy wi k pull g tt te):=by
 intro pins s σ H Q I h;rw[eval_ListComp];have hcells:∀ y∈sc.names,y.2=.free->∃ c,X.env.cells.lookup y.1=some c:=fun y hy hf=>I.ok.has y.1 (.inl (by
  show X.env.scope.names.lookup y.1=_
  rw[hnm];exact B.fre y hy hf))
 obtain⟨cl,ecl,c1,_,c3⟩:=V9 (env:=X.env) sc.names [] hcells (fun x c e=>nomatch e);rw[<-Tz]at ecl;refine wpAny_comprehension_free (use:=none) rfl hs ecl B.kind B.loc (thn (hi pins s σ H _ I h) fun xv s1 h1=>thn h1 fun itv s2 h2=>?_);obtain⟨it,fp,tn,J,H1,e,I2,T,st2,f2,hW⟩:=h2;subst e;have ho:∀ b∈fp,∃ o,s2.heap.get? b=some o:=fun b hb=>let ⟨o,e,_⟩:=T.obj _ _ st2 b hb;⟨o,e⟩
 refine wpAny_newObj_type (wpAny_newFunctionEnv B.nocell (by intro y hy;simp at hy) (fun h₁ hns₁ hsb₁=>?_) B.kind);dsimp only at hns₁ hsb₁ ⊢;rw[Y19]at hns₁ hsb₁ ⊢;have old:∀ b o,s2.heap.get? b=some o->h₁.get? b=some o:=fun b o e=>by
  have hlt:=Y0a e;exact (hsb₁.2 b (Y0j (Y1b hlt))).trans (Y02 _ (Y02 _ e))
 have hd:h₁.get? s2.heap.objs.size=some { cls:=.type "list",data:=.seq ([]:List Value).toArray }:=
  (hsb₁.2 _ (Y0j (Y1t _))).trans (Y02 _ (Y06 _ rfl))
 have I4:=Tq (tk:=s2.toks+([]:List (Str×Value)).length) B hN hnm I2 f2 ho c1 c3 hns₁ old hd;have st4:tn 0 h₁:=T.keep _ _ _ st2 fun b _ o e=>old b o e;obtain⟨W,⟨m0,w0⟩,turn⟩:=hW s2.heap.objs.size (I2.hok.fresh (Y04 _));have fr4:∀ b∈fp,(upd H1 s2.heap.objs.size (.lst [])) b=none:=fun b hb=>by
  obtain⟨o,e⟩:=ho b hb;rw[ZZ (Y0j (Y0a e))];exact (f2 b hb).1
 have stat:∀ {H':Hp},(∀ b∈fp,H' b=none)->∀ b∈fp,Yo (blk X sc cl (s2.heap.objs.size+1) N' s2 H1 fp pins) [] H' b:=fun hn b hb=>by
  refine⟨hn b hb,(I4.ok.exf b hb).1,I4.ok.exfs b hb,.inl hb,(I4.ok.exf b hb).2,fun p hp=>?_⟩;have hp:p∈X.pn++pins:=by simpa [blk] using hp
  exact (f2 b hb).2.2.2.2.2 p hp
 have loop:∀ s₃:Shared,s₃={ s2 with heap:=h₁,toks:=s2.toks+([]:List (Str×Value)).length }->
   codeAny (model X.prog X.w) X.A (.compLoop (.ListComp elt [⟨tg,iter,[cnd],0⟩] sc pos) 0 (.ref it) (.ref s2.heap.objs.size) (compEnvC sc cl (s2.heap.objs.size+1) X.env))
    (compPost (model X.prog X.w) X.A X.xe none (EP X pins σ Q) (.ref s2.heap.objs.size) (s2.heap.objs.size+1)) s₃:=by
  rintro s₃ rfl;refine Z58 (fun n s'=>∃ i σ' H',Inv (blk X sc cl (s2.heap.objs.size+1) N' s2 H1 fp pins) [] σ' H' s'/\tn i s'.heap/\(∀ b∈fp,H' b=none)/\W i n σ' H') ?_ m0 ⟨0,_,_,I4,st4,fr4,w0⟩;rintro n s3 ⟨i,σ3,H3,I3,st3,fr3,w3⟩;rcases turn i n σ3 H3 w3 with ⟨stop,q⟩|⟨go,step⟩
  ·refine thn (T.done (blk X sc cl (s2.heap.objs.size+1) N' s2 H1 fp pins) rfl rfl rfl hc i [] s3 σ3 H3 _ I3 (stat fr3) st3 stop) fun r s4 ⟨hr,I5⟩=>?_;subst hr;obtain⟨m,hn,_⟩:=id I5.loc;refine⟨m,hn,fun h' hs'=>?_⟩;have ne:∀ b o,s2.heap.get? b=some o->b≠s2.heap.objs.size+1:=fun b o e=>Y0j (Y1b (Y0a e));have U:Un (frs X.stack) fp H1 H3 s2.heap s4.heap:=I5.base;have U':Un (frs X.stack) fp H1 H3 s2.heap h':=⟨fun b o e n hb hx=>(hs'.2 b (ne b o e)).trans (U.keep b o e n hb hx),fun b o e n hb hx=>by
     obtain⟨sl,z⟩:=U.slot b o e n hb hx
     exact⟨sl,(hs'.2 b (ne b o e)).trans z⟩,U.free,fun b o e hx=>by
     obtain⟨o',z⟩:=U.there b o e hx
     exact⟨o',(hs'.2 b (ne b o e)).trans z⟩,U.tups,U.frzs,U.tbls⟩
   have hok:HOk X.prog X.w H3 h':=HOk.but (C:=s2.heap.objs.size+1) I5.hok I5.free fun b o hb e=>(hs'.2 b hb).trans e;refine⟨.ref s2.heap.objs.size,H3,I2.call' (s':={ s4 with heap:=h' }) I5.os U' hok I5.bare fun b hb=>?_,rfl,q⟩;exact⟨(f2 b hb).2.2.2.1,(f2 b hb).2.1,(f2 b hb).2.2.2.2.1,(f2 b hb).2.2.2.2.2⟩
  ·refine thn (T.item (blk X sc cl (s2.heap.objs.size+1) N' s2 H1 fp pins) rfl rfl rfl hc i [] s3 σ3 H3 _ I3 (stat fr3) st3 go) fun r s4 ⟨u,hr,h4⟩=>?_;subst hr;refine thn h4 fun _ s5 ⟨x,H5,I5,r5,y5,st5,fr5⟩=>?_;have I5':=I5.pinned (stat fr5) (T.obj _ _ st5);refine wpAny_mono (hg _ _ _ _ _ _ _ s5 σ3 H5 x u _ I5' r5 (step x H5 y5)) (fun _ s6 ⟨σ6,H6,I6,q6⟩=>?_) fun _ _ z=>z.elim;refine wpAny_mono (hcn _ _ _ _ _ _ _ s6 σ6 H6 _ I6 q6) (fun ok s7 ⟨H7,I7,q7⟩=>?_) fun _ _ z=>z.elim;cases ok with
   | false=>
    have q7:∃ m',m'<n/\W (i+1) m' σ6 H7:=by simpa using q7
    obtain⟨m',hm,w7⟩:=q7;refine⟨m',hm,i+1,σ6,_,I7.unpinned,T.keep _ _ _ st5 fun b hb o e=>(I7.pin (b,o) (Y0b _ (Y0b _ (Yn hb e)))).1,fun b hb=>?_,w7⟩;obtain⟨o,e,_⟩:=T.obj _ _ st5 b hb;exact (I7.pin (b,o) (Y0b _ (Y0b _ (Yn hb e)))).2.1
   | true=>
    rw[if_pos rfl]at q7;refine wpAny_mono (he _ _ _ _ _ _ _ s7 σ6 H7 _ I7 q7) (fun y s8 ⟨z,H8,I8,r8,xs,hx8,hz8,m',hm,w8⟩=>?_) fun _ _ z=>z.elim;refine wpAny_mono (YU (X:=blk X sc cl (s2.heap.objs.size+1) N' s2 H1 fp pins) _ s8 σ6 H8 (.ref s2.heap.objs.size) [z] (.ref s2.heap.objs.size) [y] (fun _ H9=>H9=upd H8 s2.heap.objs.size (.lst (xs++[z]))) I8 rfl (.cons r8 .nil) ⟨_,xs,z,rfl,rfl,hx8,hz8,rfl⟩) (fun _ s9 ⟨_,H9,I9,_,e9⟩=>?_) fun _ _ z=>z.elim;subst e9;refine⟨m',hm,i+1,σ6,_,I9.unpinned,T.keep _ _ _ st5 fun b hb o e=>(I9.pin (b,o) (Y0b _ (Y0b _ (Yn hb e)))).1,fun b hb=>?_,w8⟩;obtain⟨o,e,_⟩:=T.obj _ _ st5 b hb;exact (I9.pin (b,o) (Y0b _ (Y0b _ (Yn hb e)))).2.1
 exact codeAny_compStart_list (loop _ rfl) (T.self _ 0 _ _ _ st4 (loop _ rfl))
end
section
variable {X:Cx}{elt tg iter:Expr}{sc:Scope}{pos py spos:Pos}{wi:TI}{g:TG}{te:TE}{N:List Str}{names:List (Str×NameKind)}{N':List Str}{k j:Nat}{pull:List Nat}{y:Str}
theorem Zbc (hc:X.calm=true)(hNd:X.N.Nodup)(hj:X.N[j]?=some y)(hy:X.env.scope.names.lookup y=some .local)(B:Uj N names N' k pull sc)(hN:X.N=N)(hnm:X.env.scope.names=names)(hi:PI X tg iter wi)
  (hg:∀ cl C s₂ H₁ fp pins,PG (blk X sc cl C N' s₂ H₁ fp pins) tg g) (he:∀ cl C s₂ H₁ fp pins,PE (blk X sc cl C N' s₂ H₁ fp pins) elt te)
  (hs:∀ x,foldedSetIterable iter X.env x=pure x:=by intro _;rfl) (hsw:swapsWith (.ListComp elt [⟨tg,iter,[],0⟩] sc pos) (some (.Name y py)) spos.line X.env=pure true:=by rfl):PS X (.Assign [.Name y py] (.ListComp elt [⟨tg,iter,[],0⟩] sc pos) spos) (Xv (YO wi k pull g te) (ZC j)):=by
 intro pins s σ H D I h;rw[exec_Assign_Name_used _ _ _ _ hsw];refine wpAny_bind (wpAny_standAt (wpAny_bind ?_));show wpAny _ X.A (do let _ <-comprehension (.ListComp elt [⟨tg,iter,[],0⟩] sc pos) sc X.env _ (newList []) false (eval iter X.env) (some (assign (.Name y py) X.env))) _ _ s;have hcells:∀ y∈sc.names,y.2=.free->∃ c,X.env.cells.lookup y.1=some c:=fun y hy hf=>I.ok.has y.1 (.inl (by
  show X.env.scope.names.lookup y.1=_
  rw[hnm];exact B.fre y hy hf))
 obtain⟨cl,ecl,c1,_,c3⟩:=V9 (env:=X.env) sc.names [] hcells (fun x c e=>nomatch e);rw[<-Tz]at ecl;refine wpAny_bind (wpAny_mono (wpAny_comprehension_free (Q:=fun _ s'=>SP X pins D .next s') (use:=some (assign (.Name y py) X.env)) rfl hs ecl B.kind B.loc (thn (hi pins s σ H _ I h) fun xv s1 h1=>thn h1 fun itv s2 h2=>?_)) (fun _ s' hq=>wpAny_pure (wpAny_pure hq)) fun _ _ e=>e);obtain⟨it,fp,tn,J,H1,e,I2,T,st2,f2,hW⟩:=h2;subst e;have ho:∀ b∈fp,∃ o,s2.heap.get? b=some o:=fun b hb=>let ⟨o,e,_⟩:=T.obj _ _ st2 b hb;⟨o,e⟩
 refine wpAny_newObj_type (wpAny_newFunctionEnv B.nocell (by intro y hy;simp at hy) (fun h₁ hns₁ hsb₁=>?_) B.kind);dsimp only at hns₁ hsb₁ ⊢;rw[Y19]at hns₁ hsb₁ ⊢;have old:∀ b o,s2.heap.get? b=some o->h₁.get? b=some o:=fun b o e=>by
  have hlt:=Y0a e;exact (hsb₁.2 b (Y0j (Y1b hlt))).trans (Y02 _ (Y02 _ e))
 have hd:h₁.get? s2.heap.objs.size=some { cls:=.type "list",data:=.seq ([]:List Value).toArray }:=
  (hsb₁.2 _ (Y0j (Y1t _))).trans (Y02 _ (Y06 _ rfl))
 have I4:=Tq (tk:=s2.toks+([]:List (Str×Value)).length) B hN hnm I2 f2 ho c1 c3 hns₁ old hd;have st4:tn 0 h₁:=T.keep _ _ _ st2 fun b _ o e=>old b o e;obtain⟨W,⟨m0,w0⟩,turn⟩:=hW s2.heap.objs.size (I2.hok.fresh (Y04 _));have fr4:∀ b∈fp,(upd H1 s2.heap.objs.size (.lst [])) b=none:=fun b hb=>by
  obtain⟨o,e⟩:=ho b hb;rw[ZZ (Y0j (Y0a e))];exact (f2 b hb).1
 have stat:∀ {H':Hp},(∀ b∈fp,H' b=none)->∀ b∈fp,Yo (blk X sc cl (s2.heap.objs.size+1) N' s2 H1 fp pins) [] H' b:=fun hn b hb=>by
  refine⟨hn b hb,(I4.ok.exf b hb).1,I4.ok.exfs b hb,.inl hb,(I4.ok.exf b hb).2,fun p hp=>?_⟩;have hp:p∈X.pn++pins:=by simpa [blk] using hp
  exact (f2 b hb).2.2.2.2.2 p hp
 have loop:∀ s₃:Shared,s₃={ s2 with heap:=h₁,toks:=s2.toks+([]:List (Str×Value)).length }->
   codeAny (model X.prog X.w) X.A (.compLoop (.ListComp elt [⟨tg,iter,[],0⟩] sc pos) 0 (.ref it) (.ref s2.heap.objs.size) (compEnvC sc cl (s2.heap.objs.size+1) X.env))
    (compPost (model X.prog X.w) X.A X.xe (some (assign (.Name y py) X.env)) (fun _ s'=>SP X pins D .next s') (.ref s2.heap.objs.size) (s2.heap.objs.size+1)) s₃:=by
  rintro s₃ rfl;refine Z7x (fun n s'=>∃ i σ' H',Inv (blk X sc cl (s2.heap.objs.size+1) N' s2 H1 fp pins) [] σ' H' s'/\tn i s'.heap/\(∀ b∈fp,H' b=none)/\W i n σ' H') ?_ m0 ⟨0,_,_,I4,st4,fr4,w0⟩;rintro n s3 ⟨i,σ3,H3,I3,st3,fr3,w3⟩;rcases turn i n σ3 H3 w3 with ⟨stop,q⟩|⟨go,step⟩
  ·refine thn (T.done (blk X sc cl (s2.heap.objs.size+1) N' s2 H1 fp pins) rfl rfl rfl hc i [] s3 σ3 H3 _ I3 (stat fr3) st3 stop) fun r s4 ⟨hr,I5⟩=>?_;subst hr;obtain⟨m,hn,_⟩:=id I5.loc;have U:Un (frs X.stack) fp H1 H3 s2.heap s4.heap:=I5.base;have J5:Inv X pins σ H3 s4:=I2.call' (s':=s4) I5.os U I5.hok I5.bare fun b hb=>⟨(f2 b hb).2.2.2.1,(f2 b hb).2.1,(f2 b hb).2.2.2.2.1,(f2 b hb).2.2.2.2.2⟩;obtain⟨g0,g1,_,g3,g4,g5⟩:Yo X pins H3 (s2.heap.objs.size+1):=I2.fpOk (Y2i _) I5.free;refine wpAny_assign_Name (Z5t J5 hNd hj (.inl hy) (v:=.ref s2.heap.objs.size) rfl (fun s5 K5 ⟨a,sb,ha⟩=>?_) (.inr hy));have hne:s2.heap.objs.size+1≠a:=fun z=>by
    rcases ha with ha|ha
    ·exact g1 (z.trans ha)
    ·exact g4 _ _ ha z.symm
   refine⟨m,hn.sameBut sb hne,fun h' hs'=>⟨_,H3,?_,q⟩⟩;exact K5.turned (t':=s5.toks) (fun b o hb e=>(hs'.2 b hb).trans e) g0 g1 g3 g4 g5
  ·refine thn (T.item (blk X sc cl (s2.heap.objs.size+1) N' s2 H1 fp pins) rfl rfl rfl hc i [] s3 σ3 H3 _ I3 (stat fr3) st3 go) fun r s4 ⟨u,hr,h4⟩=>?_;subst hr;refine thn h4 fun _ s5 ⟨x,H5,I5,r5,y5,st5,fr5⟩=>?_;have I5':=I5.pinned (stat fr5) (T.obj _ _ st5);refine wpAny_mono (hg _ _ _ _ _ _ _ s5 σ3 H5 x u _ I5' r5 (step x H5 y5)) (fun _ s6 ⟨σ6,H6,I6,q6⟩=>?_) fun _ _ z=>z.elim;refine wpAny_mono (he _ _ _ _ _ _ _ s6 σ6 H6 _ I6 q6) (fun y s7 ⟨z,H7,I7,r7,xs,hx7,hz7,m',hm,w7⟩=>?_) fun _ _ z=>z.elim;refine wpAny_mono (YU (X:=blk X sc cl (s2.heap.objs.size+1) N' s2 H1 fp pins) _ s7 σ6 H7 (.ref s2.heap.objs.size) [z] (.ref s2.heap.objs.size) [y] (fun _ H8=>H8=upd H7 s2.heap.objs.size (.lst (xs++[z]))) I7 rfl (.cons r7 .nil) ⟨_,xs,z,rfl,rfl,hx7,hz7,rfl⟩) (fun _ s8 ⟨_,H8,I8,_,e8⟩=>?_) fun _ _ z=>z.elim;subst e8;refine⟨m',hm,i+1,σ6,_,I8.unpinned,T.keep _ _ _ st5 fun b hb o e=>(I8.pin (b,o) (Y0b _ (Y0b _ (Yn hb e)))).1,fun b hb=>?_,w7⟩;obtain⟨o,e,_⟩:=T.obj _ _ st5 b hb;exact (I8.pin (b,o) (Y0b _ (Y0b _ (Yn hb e)))).2.1
 exact codeAny_compStart_list (loop _ rfl) (T.self _ 0 _ _ _ st4 (loop _ rfl))
end
def XW (n:Nat)(Pv:Nat->List V->St->Hp->Prop)(d:Addr)(i m:Nat)(σ:St)(H:Hp):Prop:=m=n-i/\i<=n/\∃ xs,Pv i xs σ H/\H d=some (.lst xs)
def Zfk (n:Nat)(Pv:Nat->List V->St->Hp->Prop)(d:Addr)(i:Nat)(σ3:St)(y:V)(H4:Hp):Prop:=∃ xs,H4 d=some (.lst xs)/\xs.length<sizeLine/\∃ m',m'<n-i/\XW n Pv d (i+1) m' σ3 (upd H4 d (.lst (xs++[y])))
def Zgy (n:Nat)(Pv:Nat->List V->St->Hp->Prop)(d:Addr)(i:Nat)(σ3:St)(H4:Hp):Prop:=∃ m',m'<n-i/\XW n Pv d (i+1) m' σ3 H4
theorem T5 {n:Nat}{Pv:Nat->List V->St->Hp->Prop}{d:Addr}{i:Nat}{σ3:St}{y:V}{H4:Hp}{xs:List V}(hi:i<n)(hd:H4 d=some (.lst xs))(hl:xs.length<=1000)(hp:Pv (i+1) (xs++[y]) σ3 (upd H4 d (.lst (xs++[y])))):Zfk n Pv d i σ3 y H4:=
 ⟨xs,hd,Zj hl,n-(i+1),by omega,rfl,hi,_,hp,Z2⟩
theorem Ss {n:Nat}{Pv:Nat->List V->St->Hp->Prop}{d:Addr}{i:Nat}{σ3:St}{H4:Hp}{xs:List V}(hi:i<n)(hd:H4 d=some (.lst xs))(hp:Pv (i+1) xs σ3 H4):Zgy n Pv d i σ3 H4:=
 ⟨n-(i+1),by omega,rfl,hi,_,hp,hd⟩
theorem ZeL {J:It}{g:TG}{te:TE}{d:Addr}{σ0:St}{H1:Hp}{Q:Addr->Hp->Prop}(n:Nat)(Pv:Nat->List V->St->Hp->Prop)(h0:Pv 0 [] σ0 (upd H1 d (.lst [])))
  (go:∀ i xs σ H,i<n->Pv i xs σ H->H d=some (.lst xs)->J.go i H/\∀ x H2,J.yld i H x H2->g x σ H2 fun σ3 H3=>te σ3 H3 fun y H4=>Zfk n Pv d i σ3 y H4)
  (stop:∀ xs σ H,Pv n xs σ H->H d=some (.lst xs)->J.stop n H/\Q d H) :
  ∃ W:Nat->Nat->St->Hp->Prop,(∃ m,W 0 m σ0 (upd H1 d (.lst [])))/\∀ i m σ' H',W i m σ' H'->
   (J.stop i H'/\Q d H')\/(J.go i H'/\∀ x H2,J.yld i H' x H2->g x σ' H2 fun σ3 H3=>te σ3 H3 fun y H4=>∃ xs,H4 d=some (.lst xs)/\xs.length<sizeLine/\∃ m',m'<m/\W (i+1) m' σ3 (upd H4 d (.lst (xs++[y])))):=by
 refine⟨XW n Pv d,⟨n,by simp,Y0y _,[],h0,Z2⟩,?_⟩;rintro i m σ H ⟨rfl,hi,xs,p,hd⟩
 by_cases hlt:i<n
 ·exact .inr (go i xs σ H hlt p hd)
 ·have:i=n:=by omega
  subst this;exact .inl (stop xs σ H p hd)
theorem Tr {J:It}{g:TG}{tt:TT}{te:TE}{d:Addr}{σ0:St}{H1:Hp}{Q:Addr->Hp->Prop}(n:Nat)(Pv:Nat->List V->St->Hp->Prop)(h0:Pv 0 [] σ0 (upd H1 d (.lst [])))
  (go:∀ i xs σ H,i<n->Pv i xs σ H->H d=some (.lst xs)->J.go i H/\∀ x H2,J.yld i H x H2->g x σ H2 fun σ3 H3=>tt σ3 H3 fun b H4=>if b=true then te σ3 H4 fun y H5=>Zfk n Pv d i σ3 y H5 else Zgy n Pv d i σ3 H4)
  (stop:∀ xs σ H,Pv n xs σ H->H d=some (.lst xs)->J.stop n H/\Q d H) :
  ∃ W:Nat->Nat->St->Hp->Prop,(∃ m,W 0 m σ0 (upd H1 d (.lst [])))/\∀ i m σ' H',W i m σ' H'->
   (J.stop i H'/\Q d H')\/(J.go i H'/\∀ x H2,J.yld i H' x H2->g x σ' H2 fun σ3 H3=>tt σ3 H3 fun b H4=>if b=true then te σ3 H4 fun y H5=>∃ xs,H5 d=some (.lst xs)/\xs.length<sizeLine/\∃ m',m'<m/\W (i+1) m' σ3 (upd H5 d (.lst (xs++[y])))
    else ∃ m',m'<m/\W (i+1) m' σ3 H4):=by
 refine⟨XW n Pv d,⟨n,by simp,Y0y _,[],h0,Z2⟩,?_⟩;rintro i m σ H ⟨rfl,hi,xs,p,hd⟩
 by_cases hlt:i<n
 ·exact .inr (go i xs σ H hlt p hd)
 ·have:i=n:=by omega
  subst this;exact .inl (stop xs σ H p hd)
end L2
namespace K1
open PySem L2 Sq
def Zb (H:Hp):List Addr->List (List Nat)->Prop
 | [],[]=>True
 | a::as,M::Ms=>H a=some (.lst (nv M))/\Zb H as Ms
 | _,_=>False
theorem Zb.same {H H':Hp}(e:Z7 H H'):∀ {as:List Addr} {Ms:List (List Nat)},Zb H as Ms->Zb H' as Ms
 | [],[],_=>trivial
 | _::_,_::_,⟨h1,h2⟩=>⟨e _ _ h1,Zb.same e h2⟩
 | [],_::_,h=>h.elim
 | _::_,[],h=>h.elim
theorem Zb.len {H:Hp}:∀ {as:List Addr} {Ms:List (List Nat)},Zb H as Ms->as.length=Ms.length
 | [],[],_=>rfl
 | _::as,_::Ms,⟨_,h2⟩=>by simp[Zb.len h2]
 | [],_::_,h=>h.elim
 | _::_,[],h=>h.elim
theorem Zb.get {H:Hp}:∀ {as:List Addr} {Ms:List (List Nat)},Zb H as Ms->∀ {i:Nat} {a:Addr},as[i]?=some a->∃ M,Ms[i]?=some M/\H a=some (.lst (nv M))
 | [],[],_,i,a,h=>by simp at h
 | b::as,M::Ms,⟨h1,h2⟩,0,a,h=>by simp at h;subst h;exact⟨M,rfl,h1⟩
 | b::as,M::Ms,⟨h1,h2⟩,i+1,a,h=>by
  obtain⟨M',e1,e2⟩:=Zb.get h2 (i:=i) (a:=a) (by simpa using h);exact⟨M',by simpa using e1,e2⟩
 | [],_::_,h,_,_,_=>h.elim
 | _::_,[],h,_,_,_=>h.elim
theorem Zb.snoc {H:Hp}:∀ {as:List Addr} {Ms:List (List Nat)} {a:Addr} {M:List Nat},Zb H as Ms->H a=some (.lst (nv M))->Zb H (as++[a]) (Ms++[M])
 | [],[],_,_,_,h=>⟨h,trivial⟩
 | _::_,_::_,_,_,⟨h1,h2⟩,h=>⟨h1,Zb.snoc h2 h⟩
 | [],_::_,_,_,h,_=>h.elim
 | _::_,[],_,_,h,_=>h.elim
theorem Zb.updN {H:Hp}{d:Addr}{o o':HO}(hd:H d=some o'):∀ {as:List Addr} {Ms:List (List Nat)},Zb H as Ms->(∀ a∈as,a≠d)->Zb (upd H d o) as Ms
 | [],[],_,_=>trivial
 | a::_,_::_,⟨h1,h2⟩,hn=>⟨by rw[ZZ (hn a (by simp))];exact h1,Zb.updN hd h2 fun b hb=>hn b (by simp[hb])⟩
 | [],_::_,h,_=>h.elim
 | _::_,[],h,_=>h.elim
noncomputable def rv (as:List Addr):List V:=as.map V.ref
theorem Zah (as:List Addr)(a:Addr):rv as++[.ref a]=rv (as++[a]):=by simp[rv]
theorem XY (as:List Addr):(rv as).length=as.length:=by simp[rv]
theorem Wu {as:List Addr}{i:Nat}{a:Addr}(h:as[i]?=some a):(rv as)[i]?=some (.ref a):=by simp[rv,h]
theorem Ud (M:List Nat):nv M=(M.map fun (x:Nat)=>(x:Int)).map V.int:=by simp[nv]
def UK (K:Y00):Sp:=fun vs H Q _=>∃ (p:Addr) (n:Nat) (r:List Nat),vs=[.ref p]/\X5 K H p r/\Row n r/\n<=36/\
 ∀ (H':Hp) (l:Addr) (as:List Addr),Z7 H H'->H l=none->H' l=some (.lst (rv as))->(∀ a∈as,H a=none)->Zb H' as (Zp n r)->Q (.ref l) H'
theorem ZaM {n i:Nat}(hi:i<n):(Y03 n)[i]?=some i:=Y21 hi
section
variable {P:Program}{w:World}{K:Y00}{mg:Str->Option Value}{base:Heap}
noncomputable abbrev nCs:List Str:=["row","found"]
theorem scCs:ZO nCs ["row"] (Z0 XF):=⟨rfl,rfl,rfl,by decide +kernel,rfl,by decide +kernel,by decide +kernel⟩
theorem ZiY:(["first","row"]:List Str).Nodup:=by decide +kernel
theorem Zju:(["cycle"]:List Str).Nodup:=by decide +kernel
theorem Zbp {f fc:Addr}{fd fdc:FuncData}(T:Bi mg)(Tm:mg "min"=none)(F:Fn K mg "cycles" XF ["row"] f fd)(FC:Fn K mg "cycle_from" U0 ["row","first"] fc fdc)(GC:Z6 P w K mg base CX0 1 fc fdc ["row","first"] (Zcg K)) :
  Z6 P w K mg base CX0 2 f fd ["row"] (UK K):=by
 refine F.F.ok scCs (fun vs H Q E h=>?_) (fun cdv A outer s H vs Q E hr h=>?_)
 ·obtain⟨p,n,r,rfl,_⟩:=h;rfl
 ·obtain⟨p,n,r,rfl,hp,rr,hn,k⟩:=h;refine⟨_,Z5 (Zbc (j:=1) (N:=nCs) (names:=(Z0 XF).names) (N':=["first","row"]) (k:=1) (pull:=[0]) (te:=Yz (Zcg K) [] E0 (ZM (ZW 1) (ZM (ZW 0) Zx))) rfl scCs.nd rfl rfl
     ⟨by rfl,by decide +kernel,by decide +kernel,by rfl,by decide +kernel,by decide +kernel⟩ rfl rfl (X9 rfl T.range (Z9 (ZF Zk rfl T.len PySem.boot_len (Z9 (pv 0) Z8)) Z8)) (fun _ _ _ _ _ _=>ZE (i:=0) ZiY rfl (Or.inl rfl))
     (fun _ _ _ _ _ _=>ZU GC hr rfl FC.m FC.F.kp FC.b .nil ZX (Z9 (pv 1) (Z9 (pv 0) Z8))))
   (Z1 (ZS (Z7o (N:=nCs) (names:=(Z0 XF).names) (N':=["cycle"]) (k:=1) (pull:=[]) (tt:=Sz (tOp rEq (tOp (WQ K) (ZW 0) (tC (.int 0))) (tCB (fun xs H Q=>∃ (p:Addr) (ns:List Int),xs=[.ref p]/\SqL K H p (ns.map V.int)/\ns≠[]/\∀ m,m∈ns->(∀ y∈ns,m<=y)->Q (.int m) H) (ZM (ZW 0) Zx)))) (te:=ZW 0) rfl
     ⟨by rfl,by decide +kernel,by decide +kernel,by rfl,by decide +kernel,by decide +kernel⟩ rfl rfl (Y5 (pv 1)) (fun _ _ _ _ _ _=>ZE (i:=0) Zju rfl (Or.inl rfl))
     (fun _ _ _ _ _ _=>Zt Ze (ZY Zs (pv 0) Z3 (fun _ _=>rfl)) (ZF (Zbv rfl) rfl Tm ZcF (Z9 (pv 0) Z8)) (Zw _))
     (fun _ _ _ _ _ _=>pv 0)))),?_⟩
  refine⟨_,rfl,p,_,rfl,hp,(n:Int),by rw[ZQ,rr.len],by omega,by omega,fun d hd=>?_⟩;rw[Y0q];show ∃ W:Nat->Nat->St->Hp->Prop,(∃ m,W 0 m [none,some (.ref p)] (upd H d (.lst [])))/\_;refine ZeL (J:=Itr 0 n) (Q:=fun d H'=>ZC 1 (.ref d) [some (.ref p),none] H' _) n (fun i xs σ H3=>∃ o as,σ=[o,some (.ref p)]/\Z7 H H3/\xs=rv as/\(∀ a∈as,H a=none/\a≠d)/\Zb H3 as ((Y03 i).map (cyc n r))) ⟨_,[],rfl,Z4 (Z7.refl _) hd,rfl,by simp,trivial⟩ ?_ ?_
  ·rintro i xs σ H3 hi ⟨o,as,rfl,s3,rfl,fr,hL⟩ hd3;refine⟨hi,fun x H4 ⟨e1,e2⟩=>?_⟩;subst e1 e2;rw[show (0:Int)+(i:Int)=(i:Int) from by omega];refine⟨_,rfl,_,rfl,p,n,r,i,rfl,hp.same s3,rr,hi,hn,fun H5 l M s5 f5 hl hM=>?_⟩;have eM:=hM.eq rr hi;subst eM;have hlen:=hL.len;rw[Y05,Y0m]at hlen;refine T5 hi (s5 _ _ hd3) (by rw[XY];omega) ⟨_,as++[l],rfl,Z4 (s3.trans s5) hd,Zah _ _,fun a ha=>?_,?_⟩
   ·rcases Y1d.mp ha with ha|ha
    ·exact fr a ha
    ·rw[Y0c.mp ha];exact⟨s3.free f5,fun e=>by rw[e,hd3]at f5;cases f5⟩
   ·have nd:∀ {a:Addr} {o:HO},H5 a=some o->a≠d->(upd H5 d (.lst (rv as++[.ref l]))) a=some o:=fun h hne=>by rw[ZZ hne];exact h
    rw[Y1i,Y0t];have hld:l≠d:=fun e=>by rw[e,hd3]at f5;cases f5
    refine Zb.snoc ?_ (nd hl hld);have h5:=hL.same s5;exact h5.updN (s5 _ _ hd3) fun a ha=>(fr a ha).2
  ·rintro xs σ H3 ⟨o,as,rfl,s3,rfl,fr,hL⟩ hd3;refine⟨Y04 _,?_⟩;have hlen:=hL.len;rw[Y05,Y0m]at hlen;refine⟨_,rfl,d,rfl,⟨_,SqL.of hd3⟩,fun e he=>?_⟩;refine Tr (σ0:=[none]) (Q:=fun d H'=>Q (.ref d) H') n (fun i xs σ H4=>∃ o bs,σ=[o]/\Z7 H3 H4/\xs=rv bs/\(∀ a∈bs,a∈as)/\Zb H4 bs (((Y03 i).filter (Zq n r)).map (cyc n r))) ⟨_,[],rfl,Z4 (Z7.refl _) he,rfl,by simp,trivial⟩ ?_ ?_
   ·rintro i xs σ H4 hi ⟨o,bs,rfl,s4,rfl,sub,hB⟩ he4;have ha:as[i]?=some (as[i]'(by omega)):=Y01 _;generalize as[i]'(by omega)=a at ha;obtain⟨M,hM,hA⟩:=hL.get ha;rw[Y0l,ZaM hi]at hM;have eM:cyc n r i=M:=Option.some.inj hM;subst eM;have hd4:=SqL.of (K:=K) (s4 _ _ hd3);refine⟨⟨_,_,hd4,Wu ha⟩,fun y H5 ⟨e1,hy⟩=>?_⟩;subst e1;have hy:=hy _ hd4;rw[Wu ha]at hy;cases hy;have hA4:=s4 _ _ hA;refine⟨_,rfl,a,_,0,_,rfl,rfl,SqL.of hA4,ZV (j:=0) (Zy (UE rr hi)),_,rfl,a,(cyc n r i).map fun (x:Nat)=>(x:Int),rfl,by rw[<-Ud];exact SqL.of hA4,?_,fun m hm hle=>?_⟩
    ·intro z;have:=UE rr hi;rw[List.map_eq_nil_iff.mp z]at this;simp at this
    obtain⟨x,hx,rfl⟩:=Y0d.mp hm;refine⟨rfl,_,rfl,?_⟩;have hblen:=hB.len;have hbl:bs.length<=36:=by
     rw[hblen,Y05];have:=Y0u (Zq n r) (Y03 i);rw[Y0m]at this;omega
    have hfs:(Y03 (i+1)).filter (Zq n r)=(Y03 i).filter (Zq n r)++[i].filter (Zq n r):=by rw[Y1i,Y10]
    by_cases e:i=x
    ·subst e;rw[decide_eq_true rfl];refine Zo ?_;have hld:Zq n r i=true:=W6.mpr fun y hy=>by
      have:=hle _ (Y0d.mpr ⟨y,hy,rfl⟩);omega
     refine⟨_,rfl,T5 hi he4 (by rw[XY];omega) ⟨_,bs++[a],rfl,Z4 s4 he,Zah _ _,fun b hb=>?_,?_⟩⟩
     ·rcases Y1d.mp hb with hb|hb
      ·exact sub b hb
      ·rw[Y0c.mp hb];exact Y0o ha
     ·rw[hfs,Y13 hld,Y3x,Y0t];refine Zb.snoc (hB.updN he4 ?_) ?_
      ·intro b hb z;obtain⟨j,hj⟩:=List.getElem?_of_mem (sub b hb);obtain⟨M,_,hM⟩:=hL.get hj;rw[z,he]at hM;cases hM
      ·rw[ZZ (fun z=>by rw[z,he]at hA;cases hA)];exact hA4
    ·rw[decide_eq_false (by intro z;have:=V.int.inj z;omega)];refine ZG ?_;have hnl:¬ Zq n r i=true:=fun z=>by
      have h1:=W6.mp z x hx;have h2:=hle _ (Y0d.mpr ⟨i,Y0o (UE rr hi),rfl⟩);omega
     refine Ss hi he4 ⟨_,bs,rfl,s4,rfl,sub,?_⟩;rw[hfs,Y1e hnl,Y3x,Y1h];exact hB
   ·rintro xs σ H4 ⟨o,bs,rfl,s4,rfl,sub,hB⟩ he4;refine⟨⟨_,SqL.of (s4 _ _ hd3),by rw[XY,hlen];exact Y04 _⟩,?_⟩;exact k H4 e bs (s3.trans s4) (s3.free he) he4 (fun a ha=>(fr a (sub a ha)).1) hB
end
end K1
namespace L2
open PySem PySem.Spec PyProof.Rows PySem.W
noncomputable def kev {α:Type}(lt:Nat->Nat->Bool):KasT α->α
 | .ret a=>a
 | .ask i j k=>kev lt (k (lt i j))
theorem VF {α:Type}(lt:Nat->Nat->Bool)(a:α):kev lt (.ret a)=a:=rfl
theorem Xh {α:Type}(lt:Nat->Nat->Bool)(i j:Nat)(k:Bool->KasT α):kev lt (.ask i j k)=kev lt (k (lt i j)):=rfl
theorem Xp {α β:Type}(lt:Nat->Nat->Bool):∀ (t:KasT α) (f:α->KasT β),kev lt (t.bind f)=kev lt (f (kev lt t))
 | .ret a,f=>by rw[KasT.bind];rfl
 | .ask i j k,f=>by
  rw[KasT.bind,Xh,Xh];exact Xp lt (k (lt i j)) f
variable (key:Nat->Nat)
noncomputable abbrev kl:Nat->Nat->Bool:=fun i j=>decide (key i<key j)
theorem TQ {i j:Nat}(h:key i<key j):kl key i j=true:=decide_eq_true h
theorem TJ {i j:Nat}(h:¬ key i<key j):kl key i j=false:=decide_eq_false h
noncomputable def ka (p:Array Nat)(t:Nat):Nat:=key (p.getD t 0)
theorem Ul {p q:Array Nat}{t s:Nat}(h:p[t]?=q[s]?):ka key p t=ka key q s:=by
 unfold ka;rw[Y16,Y16,h]
def Srt (p:Array Nat)(m:Nat):Prop:=∀ t,t+1<m->ka key p t<=ka key p (t+1)
def Dsc (p:Array Nat)(m:Nat):Prop:=∀ t,t+1<m->ka key p (t+1)<=ka key p t
theorem Srt.le {p:Array Nat}{m:Nat}(h:Srt key p m){s:Nat}:∀ {t:Nat},s<=t->t<m->ka key p s<=ka key p t
 | 0,h1,_=>by (have:s=0:=(by lia);subst this;exact Y04 _)
 | t+1,h1,h2=>by
  rcases Y0x s (t+1) with c|c
  ·exact Y1c (Srt.le h (by lia) (by lia)) (h t h2)
  ·have:s=t+1:=(by lia);subst this;exact Y04 _
theorem Dsc.le {p:Array Nat}{m:Nat}(h:Dsc key p m){s:Nat}:∀ {t:Nat},s<=t->t<m->ka key p t<=ka key p s
 | 0,h1,_=>by (have:s=0:=(by lia);subst this;exact Y04 _)
 | t+1,h1,h2=>by
  rcases Y0x s (t+1) with c|c
  ·exact Y1c (h t h2) (Dsc.le h (by lia) (by lia))
  ·have:s=t+1:=(by lia);subst this;exact Y04 _
theorem Z6k (p:Array Nat):∀ (f i:Nat),1<=i->Srt key p i->i<=kev (kl key) (kas_asc p f i)/\kev (kl key) (kas_asc p f i)<=i+f/\Srt key p (kev (kl key) (kas_asc p f i))/\(kev (kl key) (kas_asc p f i)<i+f->ka key p (kev (kl key) (kas_asc p f i))<ka key p (kev (kl key) (kas_asc p f i)-1))
 | 0,i,h1,hs=>by
  rw[kas_asc];exact⟨Y04 _,Y04 _,hs,fun z=>absurd z (by rw[VF];lia)⟩
 | f+1,i,h1,hs=>by
  rw[kas_asc,Xh]
  by_cases c:key (p.getD i 0)<key (p.getD (i-1) 0)
  ·rw[TQ key c,if_pos rfl,VF];exact⟨Y04 _,by lia,hs,fun _=>c⟩
  ·rw[TJ key c,if_neg (by decide)];have hs':Srt key p (i+1):=fun t ht=>by
    rcases Y0x (t+1) i with d|d
    ·exact hs t d
    ·have:t+1=i:=(by lia);have e:t=i-1:=(by lia);subst e;show key (p.getD (i-1) 0)<=key (p.getD (i-1+1) 0);rw[show i-1+1=i from by lia];lia
   obtain⟨a,b,c',d⟩:=Z6k p f (i+1) (by lia) hs';exact⟨by lia,by lia,c',fun z=>d (by lia)⟩
theorem Z7I {p:Array Nat}{i j:Nat}(hj:j<=p.size)(t:Nat):ka key (kas_rev p i j) t=if i<=t/\t<j then ka key p (i+j-1-t) else ka key p t:=by
 have:=getElem?_mirror_all (xs:=p) (i:=i) hj t
 by_cases c:i<=t/\t<j
 ·rw[if_pos c];rw[if_pos c]at this;exact Ul key this
 ·rw[if_neg c];rw[if_neg c]at this;exact Ul key this
theorem W7 (p:Array Nat)(i j:Nat):(kas_rev p i j).size=p.size:=mirror_size p i j _
theorem W5 (p:Array Nat)(i j:Nat):(kas_rev p i j).Perm p:=mirror_perm p i j _
theorem Z6q {p:Array Nat}{i j:Nat}(hj:j<=p.size)(h:∀ t,i<=t->t<j->ka key p t=ka key p i)(t:Nat):ka key (kas_rev p i j) t=ka key p t:=by
 rw[Z7I key hj]
 split
 ·next c=>rw[h t c.1 c.2,h (i+j-1-t) (by lia) (by lia)]
 ·rfl
theorem Tt:∀ (f:Nat) (p:Array Nat) (i k:Nat),1<=i->i+f<=p.size->k+1<=i->Dsc key p i->(∀ t,i-(k+1)<=t->t<i->ka key p t=ka key p (i-1))->
  ∃ q m k',kev (kl key) (kas_desc f p i k)=(q,m,k')/\q.Perm p/\q.size=p.size/\i<=m/\m<=i+f/\Dsc key q m/\k' + 1<=m/\(∀ t,m-(k' + 1)<=t->t<m->ka key q t=ka key q (m-1))
 | 0,p,i,k,h1,hsz,hk,hd,he=>by
  rw[kas_desc];exact⟨p,i,k,rfl,Array.Perm.refl _,rfl,Y04 _,by lia,hd,hk,he⟩
 | f+1,p,i,k,h1,hsz,hk,hd,he=>by
  rw[kas_desc,Xh]
  by_cases c:key (p.getD i 0)<key (p.getD (i-1) 0)
  ·rw[TQ key c,if_pos rfl];have step:∀ p':Array Nat,p'.size=p.size->(∀ t,ka key p' t=ka key p t)->Dsc key p' (i+1):=fun p' _ hp' t ht=>by
    rw[hp',hp'];rcases Y0x (t+1) i with d|d
    ·exact hd t d
    ·have e:t=i-1:=(by lia);subst e;rw[show i-1+1=i from by lia];exact Y14 c
   by_cases k0:k>0
   ·rw[if_pos k0];have hl:∀ t,ka key (kas_rev p (i-(k+1)) i) t=ka key p t:=Z6q key (by lia) fun t t1 t2=>by rw[he t t1 t2,he (i-(k+1)) (Y04 _) (by lia)]
    obtain⟨q,m,k',e,pq,sq,a,b,d,g,h⟩:=Tt f (kas_rev p (i-(k+1)) i) (i+1) 0 (by lia) (by rw[W7];lia) (by lia) (step _ (W7 _ _ _) hl) (fun t t1 t2=>by
     have:t=i:=by lia
     subst this;rfl)
    exact⟨q,m,k',e,pq.trans (W5 _ _ _),by rw[sq,W7],by lia,by lia,d,g,h⟩
   ·rw[if_neg k0];obtain⟨q,m,k',e,pq,sq,a,b,d,g,h⟩:=Tt f p (i+1) 0 (by lia) (by lia) (by lia) (step p rfl fun _=>rfl) (fun t t1 t2=>by
     have:t=i:=by lia
     subst this;rfl)
    exact⟨q,m,k',e,pq,sq,by lia,by lia,d,g,h⟩
  ·rw[TJ key c,if_neg (by decide),Xh]
   by_cases c2:key (p.getD (i-1) 0)<key (p.getD i 0)
   ·rw[TQ key c2,if_pos rfl,VF];exact⟨p,i,k,rfl,Array.Perm.refl _,rfl,Y04 _,by lia,hd,hk,he⟩
   ·rw[TJ key c2,if_neg (by decide)];have eq:ka key p i=ka key p (i-1):=(by show key (p.getD i 0)=key (p.getD (i-1) 0);lia);obtain⟨q,m,k',e,pq,sq,a,b,d,g,h⟩:=Tt f p (i+1) (k+1) (by lia) (by lia) (by lia) (fun t ht=>by
     rcases Y0x (t+1) i with d|d
     ·exact hd t d
     ·have e:t=i-1:=by lia
      subst e
      rw[show i-1+1=i from by lia]
      exact Nat.le_of_eq eq) (fun t t1 t2=>by
     show ka key p t=ka key p i
     rcases Y0x t i with d|d
     ·rw[eq];exact he t (by lia) d
     ·have:t=i:=by lia
      subst this;rfl)
    exact⟨q,m,k',e,pq,sq,by lia,by lia,d,g,h⟩
theorem Z74 {m nrem:Nat}{p:Array Nat}(h1:1<=m)(hm:m<=nrem)(hn:nrem=p.size)(hd:Dsc key p m) :
  ∃ m' q,kev (kl key) (kas_tail3 m nrem p)=(m',q)/\q.Perm p/\q.size=p.size/\1<=m'/\m'<=nrem/\Srt key q m':=by
 unfold kas_tail3;rw[Xp,VF];have hs:Srt key (kas_rev p 0 m) m:=fun t ht=>by
  rw[Z7I key (by lia),Z7I key (by lia),if_pos (by lia),if_pos (by lia)];exact Dsc.le key hd (by lia) (by lia)
 obtain⟨a,b,c,_⟩:=Z6k key (kas_rev p 0 m) (nrem-m) m h1 hs;exact⟨_,_,rfl,W5 _ _ _,W7 _ _ _,by lia,by lia,c⟩
theorem Z3N {n nrem:Nat}{p:Array Nat}(h1:1<=n)(hn:n<nrem)(hz:nrem=p.size)(hd:Dsc key p (n+1)) :
  ∃ m' q,kev (kl key) (kas_descPart n nrem p)=(m',q)/\q.Perm p/\q.size=p.size/\1<=m'/\m'<=nrem/\Srt key q m':=by
 unfold kas_descPart;rw[Xp];obtain⟨q,m,k',e,pq,sq,a,b,d,g,h⟩:=Tt key (nrem-(n+1)) p (n+1) 0 (by lia) (by lia) (by lia) hd (fun t t1 t2=>by
  have:t=n:=by lia
  subst this;rfl)
 rw[e];show ∃ m' q',kev (kl key) (if k'>0 then kas_tail3 m nrem (kas_rev q (m-(k' + 1)) m) else kas_tail3 m nrem q)=(m',q')/\_
 by_cases k0:k'>0
 ·rw[if_pos k0];have hl:∀ t,ka key (kas_rev q (m-(k' + 1)) m) t=ka key q t:=Z6q key (by lia) fun t t1 t2=>by rw[h t t1 t2,h (m-(k' + 1)) (Y04 _) (by lia)]
  obtain⟨m',q',e',p',s',a',b',c'⟩:=Z74 key (m:=m) (nrem:=nrem) (p:=kas_rev q (m-(k' + 1)) m) (by lia) (by lia) (by rw[W7];lia) (fun t ht=>by rw[hl,hl];exact d t ht);exact⟨m',q',e',p'.trans ((W5 _ _ _).trans pq),by rw[s',W7,sq],a',b',c'⟩
 ·rw[if_neg k0];obtain⟨m',q',e',p',s',a',b',c'⟩:=Z74 key (m:=m) (nrem:=nrem) (p:=q) (by lia) (by lia) (by lia) d;exact⟨m',q',e',p'.trans pq,by rw[s',sq],a',b',c'⟩
theorem Z9N {n:Nat}{p:Array Nat}(h1:1<=n)(hz:n=p.size) :
  ∃ m q,kev (kl key) (kas_count n p)=(m,q)/\q.Perm p/\q.size=p.size/\1<=m/\m<=n/\Srt key q m:=by
 unfold kas_count;rw[Xp];obtain⟨a,b,c,d⟩:=Z6k key p (n-1) 1 (Y04 _) (fun t ht=>absurd ht (by lia));generalize kev (kl key) (kas_asc p (n-1) 1)=m at a b c d;show ∃ m' q,kev (kl key) (if (m==n)=true then KasT.ret (m,p) else if m>1 then KasT.ask (p.getD 0 0) (p.getD (m-1) 0) fun c=>if c=true then KasT.ret (m,p) else kas_descPart m n (kas_rev p 0 m) else kas_descPart m n p)=(m',q)/\_
 by_cases e:m=n
 ·rw[if_pos (by simpa using e),VF];exact⟨m,p,rfl,Array.Perm.refl _,rfl,by lia,by lia,c⟩
 ·rw[if_neg (by simpa using e)];have dd:=d (by lia)
  by_cases m1:m>1
  ·rw[if_pos m1,Xh]
   by_cases q:key (p.getD 0 0)<key (p.getD (m-1) 0)
   ·rw[TQ key q,if_pos rfl,VF];exact⟨m,p,rfl,Array.Perm.refl _,rfl,by lia,by lia,c⟩
   ·rw[TJ key q,if_neg (by decide)];have eq:∀ t,t<m->ka key p t=ka key p 0:=fun t ht=>by
     have h2:=Srt.le key c (Y0y t) ht;have h3:=Srt.le key c (show t<=m-1 by lia) (by lia);have h4:¬ ka key p 0<ka key p (m-1):=q;lia
    have hl:∀ t,ka key (kas_rev p 0 m) t=ka key p t:=Z6q key (by lia) fun t _ t2=>eq t t2;obtain⟨m',q',e',p',s',a',b',c'⟩:=Z3N key (n:=m) (nrem:=n) (p:=kas_rev p 0 m) (by lia) (by lia) (by rw[W7];lia) (fun t ht=>by
     rw[hl,hl]
     rcases Y0x (t+1) m with z|z
     ·rw[eq t (by lia),eq (t+1) z];exact Y04 _
     ·have e5:t=m-1:=by lia
      subst e5
      rw[show m-1+1=m from by lia];exact Y14 dd)
    exact⟨m',q',e',p'.trans (W5 _ _ _),by rw[s',W7],a',b',c'⟩
  ·rw[if_neg m1];have em:m=1:=(by lia);subst em;exact Z3N key (n:=1) (nrem:=n) (p:=p) (by lia) (by lia) hz (fun t ht=>by
    have:t=0:=by lia
    subst this
    exact Y14 dd)
theorem Z41 (p:Array Nat)(k:Nat)(hs:Srt key p k):∀ (f l r:Nat),r-l<=f->l<=r->r<=k->(∀ t,t<l->ka key p t<=ka key p k)->(∀ t,r<=t->t<k->ka key p k<=ka key p t)->
  kev (kl key) (kas_place p k f l r)<=k/\(∀ t,t<kev (kl key) (kas_place p k f l r)->ka key p t<=ka key p k)/\∀ t,kev (kl key) (kas_place p k f l r)<=t->t<k->ka key p k<=ka key p t
 | 0,l,r,hf,hlr,hr,h1,h2=>by
  have:l=r:=by lia
  subst this;rw[kas_place];exact⟨hr,h1,h2⟩
 | f+1,l,r,hf,hlr,hr,h1,h2=>by
  rw[kas_place]
  by_cases c:l≥r
  ·have:l=r:=(by lia);subst this;rw[if_pos c];exact⟨hr,h1,h2⟩
  ·rw[if_neg c,Xh]
   by_cases q:key (p.getD k 0)<key (p.getD ((l+r)/2) 0)
   ·rw[TQ key q,if_pos rfl];exact Z41 p k hs f l ((l+r)/2) (by lia) (by lia) (by lia) h1 fun t t1 t2=>Y1c (Y14 q) (Srt.le key hs t1 t2)
   ·rw[TJ key q,if_neg (by decide)];exact Z41 p k hs f ((l+r)/2+1) r (by lia) (by lia) hr (fun t ht=>Y1c (Srt.le key hs (show t<=(l+r)/2 by lia) (by lia)) (Nat.le_of_not_lt q)) h2
theorem Z5R {p:Array Nat}{k l:Nat}(hk:k<p.size)(hl:l<=k)(t:Nat):ka key (bubble p k (k-l)) t=if t=l then ka key p k else if l<t/\t<=k then ka key p (t-1) else ka key p t:=by
 have:=getElem?_bubble (xs:=p) hk (k-l) (by lia) t;rw[show k-(k-l)=l from by lia]at this
 by_cases c:t=l
 ·rw[if_pos c]at this ⊢;exact Ul key this
 ·rw[if_neg c]at this ⊢
  by_cases d:l<t/\t<=k
  ·rw[if_pos d]at this ⊢;exact Ul key this
  ·rw[if_neg d]at this ⊢;exact Ul key this
theorem Z97:∀ (f:Nat) (p:Array Nat) (i:Nat),i+f=p.size->Srt key p i->
  (kev (kl key) (kas_bin f p i)).Perm p/\Srt key (kev (kl key) (kas_bin f p i)) p.size
 | 0,p,i,hz,hs=>by
  rw[kas_bin];have:i=p.size:=by lia
  subst this;exact⟨Array.Perm.refl _,hs⟩
 | f+1,p,i,hz,hs=>by
  rw[kas_bin,Xp];obtain⟨a,b,c⟩:=Z41 key p i hs i 0 i (by lia) (by lia) (Y04 _) (fun t ht=>absurd ht (by lia)) (fun t t1 t2=>absurd t2 (by lia));generalize kev (kl key) (kas_place p i i 0 i)=l at a b c;have hs':Srt key (bubble p i (i-l)) (i+1):=fun t ht=>by
   rw[Z5R key (by lia) a,Z5R key (by lia) a]
   by_cases e1:t=l
   ·rw[if_pos e1,if_neg (by lia),if_pos (by lia)];have:=c t (by lia) (by lia)
    simpa using this
   ·rw[if_neg e1]
    by_cases e2:l<t/\t<=i
    ·rw[if_pos e2,if_neg (by lia),if_pos (by lia)];have:=hs (t-1) (by lia);rw[show t-1+1=t from by lia]at this
     simpa using this
    ·rw[if_neg e2]
     by_cases e3:t+1=l
     ·rw[if_pos e3];exact b t (by lia)
     ·rw[if_neg e3,if_neg (by lia)];exact hs t (by lia)
  obtain⟨x,y⟩:=Z97 f (bubble p i (i-l)) (i+1) (by rw[bubble_size];lia) hs';rw[bubble_size]at y;exact⟨x.trans (bubble_perm _ _ _),y⟩
theorem Za3 {n:Nat}(h1:1<=n):(kev (kl key) (kas_sort n)).toList.Perm (Y03 n)/\(kev (kl key) (kas_sort n)).toList.Pairwise (fun i j=>key i<=key j):=by
 have hz:n=(Y03 n).toArray.size:=by simp
 obtain⟨m,q,e,pq,sq,a,b,c⟩:=Z9N key h1 hz;have key':∀ q':Array Nat,q'.Perm (Y03 n).toArray->Srt key q' n->q'.toList.Perm (Y03 n)/\q'.toList.Pairwise (fun i j=>key i<=key j):=fun q' pq' sq'=>by
  have pl:q'.toList.Perm (Y03 n):=by simpa using pq'.toList
  refine⟨pl,Y25.mpr fun i j hi hj hij=>?_⟩;have hl:q'.toList.length=n:=by rw[pl.length_eq,Y0m]
  have:=Srt.le key sq' (Y14 hij) (by lia);unfold ka at this;rw[Y16,Y16]at this;have g:∀ t (ht:t<q'.toList.length),q'[t]?.getD 0=q'.toList[t]:=fun t ht=>by
   have ht':t<q'.size:=by simpa using ht
   rw[Y34 ht'];simp
  rw[g i hi,g j hj]at this;exact this
 unfold kas_sort;rw[Xp,e];show (kev (kl key) (if m<n then kas_bin (n-max m 1) q (max m 1) else KasT.ret q)).toList.Perm _/\_
 by_cases hm:m<n
 ·rw[if_pos hm];have em:max m 1=m:=by lia
  rw[em];obtain⟨x,y⟩:=Z97 key (n-m) q m (by lia) c;rw[show q.size=n from by lia]at y;exact key' _ (x.trans pq) y
 ·rw[if_neg hm];have em:m=n:=by lia
  subst em;exact key' _ pq c
def Pth {α:Type}(lt:Nat->Nat->Bool)(n:Nat):KasT α->Prop
 | .ret _=>True
 | .ask i j k=>i<n/\j<n/\Pth lt n (k (lt i j))
theorem VR {α β:Type}{lt:Nat->Nat->Bool}{n:Nat}:∀ (t:KasT α) (f:α->KasT β),Pth lt n t->Pth lt n (f (kev lt t))->Pth lt n (t.bind f)
 | .ret a,f,_,h=>by rw[KasT.bind];exact h
 | .ask i j k,f,h1,h=>by
  rw[KasT.bind];exact⟨h1.1,h1.2.1,VR (k (lt i j)) f h1.2.2 h⟩
def YJ (n:Nat)(p:Array Nat):Prop:=∀ i,p.getD i 0<n
theorem YJ.perm {n:Nat}{p q:Array Nat}(h:YJ n p)(pq:q.Perm p):YJ n q:=fun i=>by
 have h0:0<n:=Y2f (Y0y _) (h 0)
 by_cases hi:i<q.size
 ·have hm:q[i]∈p:=pq.mem_iff.mp (Array.getElem_mem hi);obtain⟨j,hj,e⟩:=Array.mem_iff_getElem.mp hm;have:=h j;rw[Y16,Y34 hj]at this;rw[Y16,Y34 hi,<-e];exact this
 ·rw[Y16,Array.getElem?_eq_none (by lia)];exact h0
variable {lt:Nat->Nat->Bool}{n:Nat}
theorem Z84 {p:Array Nat}(h:YJ n p):∀ (f i:Nat),Pth lt n (kas_asc p f i)
 | 0,i=>by rw[kas_asc];trivial
 | f+1,i=>by
  rw[kas_asc];refine⟨h _,h _,?_⟩;dsimp only
  split
  ·trivial
  ·exact Z84 h f (i+1)
theorem Z4U {p:Array Nat}(h:YJ n p):∀ (f k l r:Nat),Pth lt n (kas_place p k f l r)
 | 0,k,l,r=>by rw[kas_place];trivial
 | f+1,k,l,r=>by
  rw[kas_place]
  split
  ·trivial
  ·refine⟨h _,h _,?_⟩;dsimp only
   split
   ·exact Z4U h f k l _
   ·exact Z4U h f k _ r
theorem ZaN:∀ (f:Nat) (p:Array Nat) (i:Nat),YJ n p->Pth lt n (kas_bin f p i)
 | 0,p,i,_=>by rw[kas_bin];trivial
 | f+1,p,i,h=>by
  rw[kas_bin];exact VR _ _ (Z4U h _ _ _ _) (ZaN f _ _ (h.perm (bubble_perm _ _ _)))
theorem Tg:∀ (f:Nat) (p:Array Nat) (i k:Nat),YJ n p->Pth lt n (kas_desc f p i k)/\YJ n (kev lt (kas_desc f p i k)).1
 | 0,p,i,k,h=>by rw[kas_desc];exact⟨trivial,h⟩
 | f+1,p,i,k,h=>by
  have key:Pth lt n (if lt (p.getD i 0) (p.getD (i-1) 0)=true then if k>0 then kas_desc f (kas_rev p (i-(k+1)) i) (i+1) 0 else kas_desc f p (i+1) 0 else KasT.ask (p.getD (i-1) 0) (p.getD i 0) fun d=>if d=true then KasT.ret (p,i,k) else kas_desc f p (i+1) (k+1))/\
    YJ n (kev lt (if lt (p.getD i 0) (p.getD (i-1) 0)=true then if k>0 then kas_desc f (kas_rev p (i-(k+1)) i) (i+1) 0 else kas_desc f p (i+1) 0 else KasT.ask (p.getD (i-1) 0) (p.getD i 0) fun d=>if d=true then KasT.ret (p,i,k) else kas_desc f p (i+1) (k+1))).1:=by
   by_cases c:lt (p.getD i 0) (p.getD (i-1) 0)=true
   ·rw[if_pos c]
    by_cases d:k>0
    ·rw[if_pos d];exact Tg f (kas_rev p (i-(k+1)) i) (i+1) 0 (h.perm (W5 _ _ _))
    ·rw[if_neg d];exact Tg f p (i+1) 0 h
   ·rw[if_neg c,Xh];have key2:Pth lt n (if lt (p.getD (i-1) 0) (p.getD i 0)=true then KasT.ret (p,i,k) else kas_desc f p (i+1) (k+1))/\YJ n (kev lt (if lt (p.getD (i-1) 0) (p.getD i 0)=true then KasT.ret (p,i,k) else kas_desc f p (i+1) (k+1))).1:=by
     by_cases d:lt (p.getD (i-1) 0) (p.getD i 0)=true
     ·rw[if_pos d];exact⟨trivial,h⟩
     ·rw[if_neg d];exact Tg f p (i+1) (k+1) h
    exact⟨⟨h _,h _,key2.1⟩,key2.2⟩
  rw[kas_desc];exact⟨⟨h _,h _,key.1⟩,key.2⟩
theorem Z8t {p:Array Nat}(h:YJ n p)(m k:Nat):Pth lt n (kas_tail3 m k p)/\YJ n (kev lt (kas_tail3 m k p)).2:=by
 unfold kas_tail3;rw[Xp];have h':=h.perm (W5 p 0 m);exact⟨VR _ _ (Z84 h' _ _) trivial,h'⟩
theorem Z4i {p:Array Nat}(h:YJ n p)(m k:Nat):Pth lt n (kas_descPart m k p)/\YJ n (kev lt (kas_descPart m k p)).2:=by
 unfold kas_descPart;rw[Xp];obtain⟨a,b⟩:=Tg (lt:=lt) (k-(m+1)) p (m+1) 0 h;generalize he:kev lt (kas_desc (k-(m+1)) p (m+1) 0)=r at b;have key:Pth lt n (if r.2.2>0 then kas_tail3 r.2.1 k (kas_rev r.1 (r.2.1-(r.2.2+1)) r.2.1) else kas_tail3 r.2.1 k r.1)/\YJ n (kev lt (if r.2.2>0 then kas_tail3 r.2.1 k (kas_rev r.1 (r.2.1-(r.2.2+1)) r.2.1) else kas_tail3 r.2.1 k r.1)).2:=by
  by_cases c:r.2.2>0
  ·rw[if_pos c];exact Z8t (b.perm (W5 _ _ _)) _ _
  ·rw[if_neg c];exact Z8t b _ _
 exact⟨VR _ _ a (by rw[he];exact key.1),key.2⟩
theorem Za8 {p:Array Nat}(h:YJ n p)(m:Nat):Pth lt n (kas_count m p)/\YJ n (kev lt (kas_count m p)).2:=by
 unfold kas_count;rw[Xp];have key:∀ q:Nat,Pth lt n (if (q==m)=true then KasT.ret (q,p) else if q>1 then KasT.ask (p.getD 0 0) (p.getD (q-1) 0) fun c=>if c=true then KasT.ret (q,p) else kas_descPart q m (kas_rev p 0 q) else kas_descPart q m p)/\
   YJ n (kev lt (if (q==m)=true then KasT.ret (q,p) else if q>1 then KasT.ask (p.getD 0 0) (p.getD (q-1) 0) fun c=>if c=true then KasT.ret (q,p) else kas_descPart q m (kas_rev p 0 q) else kas_descPart q m p)).2:=by
  intro q
  by_cases c1:(q==m)=true
  ·rw[if_pos c1];exact⟨trivial,h⟩
  ·rw[if_neg c1]
   by_cases c2:q>1
   ·rw[if_pos c2,Xh];show (_/\_/\Pth lt n (if lt (p.getD 0 0) (p.getD (q-1) 0)=true then _ else _))/\_
    by_cases c3:lt (p.getD 0 0) (p.getD (q-1) 0)=true
    ·rw[if_pos c3];exact⟨⟨h _,h _,trivial⟩,h⟩
    ·rw[if_neg c3];obtain⟨a,b⟩:=Z4i (lt:=lt) (h.perm (W5 p 0 q)) q m;exact⟨⟨h _,h _,a⟩,b⟩
   ·rw[if_neg c2];exact Z4i h q m
 exact⟨VR _ _ (Z84 h _ _) (key _).1,(key _).2⟩
theorem Zdf {n:Nat}(h0:0<n):Pth lt n (kas_sort n):=by
 have h:YJ n (Y03 n).toArray:=fun i=>by
  rw[Y16]
  by_cases hi:i<n
  ·simp[hi]
  ·simp[hi];lia
 obtain⟨a,b⟩:=Za8 (lt:=lt) h n;unfold kas_sort;refine VR _ _ a ?_
 split
 ·exact ZaN _ _ _ b
 ·trivial
theorem Z9a {α:Type}{cmp:Nat->Nat->(Bool->Shared->Prop)->Shared->Prop}{I:Shared->Prop}(hc:∀ i j (C:Bool->Shared->Prop) s,i<n->j<n->I s->(∀ s',I s'->C (lt i j) s')->cmp i j C s) :
  ∀ (t:KasT α) (G:α->Shared->Prop) (s:Shared),Pth lt n t->I s->(∀ s',I s'->G (kev lt t) s')->KasT.kasWp cmp t G s
 | .ret a,G,s,_,hi,hG=>by rw[KasT.kasWp];exact hG s hi
 | .ask i j k,G,s,hp,hi,hG=>by
  rw[KasT.kasWp];exact hc i j _ s hp.1 hp.2.1 hi fun s' hi'=>Z9a hc (k (lt i j)) G s' hp.2.2 hi' hG
noncomputable def Yu (h:Heap)(a:Addr)(vs:List Value):Heap:=((h.update a (Obj.mapSeq fun x=>#[])).push (seqObj "tuple" vs.toArray 0)).push (seqObj "list" #[] 0)
theorem Z6w {prog:Program}{w:World}{A:Around}{E:Value->Shared->Prop}{s:Shared}{a:Addr}{vs:List Value}{n:Nat}{P:PySem.Fin->Shared->Prop}(key:Nat->Nat)(κ:SortKind)
  (hs:s.heap.get? a=some (seqObj "list" vs.toArray n)) (h2:2<=vs.length) (h64:vs.length<64)
  (hk:∀ (E':Value->Shared->Prop) (Q:SortKind->Shared->Prop) (tk:Nat),(∀ tk',Q κ { s with heap:=Yu s.heap a vs,toks:=tk' })->wpAny (model prog w) A (keyKind' vs.toArray) Q E' { s with heap:=Yu s.heap a vs,toks:=tk })
  (hc:∀ i j (C:Bool->Shared->Prop) (tk:Nat),i<vs.length->j<vs.length->(∀ tk',C (kl key i j) { s with heap:=Yu s.heap a vs,toks:=tk' })->kas_ask prog w A κ vs i j C { s with heap:=Yu s.heap a vs,toks:=tk })
  (h:∀ (p:List Nat) (tk:Nat),p.Perm (Y03 vs.length)->p.Pairwise (fun i j=>key i<=key j)->P (Fin.done (Flow.ret Value.none)) { s with heap:=sortedHeap s.heap a vs (p.map fun i=>vs.getD i Value.none).toArray,toks:=tk }) :
  wpAny (model prog w) A (Builtin.«list.sort» { pos:=[Value.ref a] }) P E s:=by
 rw[list_sort_plain];refine wpAny_bind (listItems_at hs rfl ?_);refine wpAny_bind (listUpdate_at hs rfl ?_ (by rw[Y0e];exact Y14 (Zj (by lia))) (by simp));have e1:∃ e,(s.heap.update a (Obj.mapSeq fun x=>#[])).get? a=some (seqObj "list" #[] e):=by
  have:=get?_update_seq hs (fun _=>#[]);exact⟨_,this⟩
 obtain⟨e1,he1⟩:=e1;refine wpAny_bind (seqEpoch_at he1 rfl ?_);refine wpAny_bind (wpAny_newTuple ?_ (by show vs.toArray.toList.length<=sizeLine;rw[List.toList_toArray];exact Y14 (Zj (by lia))));refine wpAny_bind (wpAny_newList ?_ (by simp));refine wpAny_holding ?_;have hsz:¬ vs.toArray.size<2:=by rw[Y0e];lia
 dsimp only;rw[if_neg hsz];refine wpAny_bind (hk E _ s.toks fun tk0=>?_);rw[if_neg hsz];have h0:0<vs.length:=by lia
 have hw:=Z9a (lt:=kl key) (n:=vs.length) (cmp:=kas_ask prog w A κ vs) (I:=fun s'=>∃ tk,s'={ s with heap:=Yu s.heap a vs,toks:=tk }) (fun i j C s' hi hj ⟨tk,e⟩ hC=>by
  subst e
  exact hc i j C tk hi hj fun tk'=>hC _ ⟨tk',rfl⟩) (kas_sort vs.length) (fun p s'=>p=kev (kl key) (kas_sort vs.length)/\∃ tk,s'={ s with heap:=Yu s.heap a vs,toks:=tk }) { s with heap:=Yu s.heap a vs,toks:=tk0 } (Zdf h0) ⟨tk0,rfl⟩ (fun s' h'=>⟨rfl,h'⟩)
 obtain⟨sp1,sp2⟩:=Za3 key (n:=vs.length) (by lia);refine wpAny_bind (thn (kat_run (ks:=vs) (vs:=vs) rfl h2 h64 (Q:=fun st s'=>Array.map (fun x=>x.snd) (arrOf st)=((kev (kl key) (kas_sort vs.length)).toList.map fun i=>vs.getD i Value.none).toArray/\failedOf st=none/\∃ tk,s'={ s with heap:=Yu s.heap a vs,toks:=tk })
  (fun p st' s' hp harr hf ⟨ep,ht⟩=>⟨by rw[kat_snds rfl harr,ep],hf,ht⟩) hw) fun r s' ⟨ha,hf,tk,es⟩=>?_)
 subst es;have hae:(Yu s.heap a vs).get? a=some (seqObj "list" #[] e1):=by
  unfold Yu;exact Y02 _ (Y02 _ he1)
 refine wpAny_bind (seqEpoch_at hae rfl ?_);refine wpAny_bind (listUpdate_at hae rfl ?_ (by simp) (by
  rw[ha]
  simp only[Y0e,Y05]
  rw[show (kev (kl key) (kas_sort vs.length)).toList.length=vs.length from by rw[sp1.length_eq,Y0m]]
  have:=Zj (n:=vs.length) (by lia)
  lia))
 rw[hf];dsimp only;rw[if_neg (by simp)];rw[ha];exact wpAny_pure (h _ tk sp1 sp2)
theorem Z6c {prog:Program}{w:World}{A:Around}{E:Value->Shared->Prop}{s:Shared}{a:Addr}{vs:List Value}{n:Nat}{P:PySem.Fin->Shared->Prop}
  (hs:s.heap.get? a=some (seqObj "list" vs.toArray n)) (h2:vs.length<2)
  (h:P (Fin.done (Flow.ret Value.none)) { s with heap:=sortedHeap s.heap a vs vs.toArray }) :
  wpAny (model prog w) A (Builtin.«list.sort» { pos:=[Value.ref a] }) P E s:=by
 rw[list_sort_plain];refine wpAny_bind (listItems_at hs rfl ?_);refine wpAny_bind (listUpdate_at hs rfl ?_ (by rw[Y0e];exact Y14 (Zj (by omega))) (by simp));have e1:∃ e,(s.heap.update a (Obj.mapSeq fun x=>#[])).get? a=some (seqObj "list" #[] e):=⟨_,get?_update_seq hs (fun _=>#[])⟩;obtain⟨e1,he1⟩:=e1;refine wpAny_bind (seqEpoch_at he1 rfl ?_);refine wpAny_bind (wpAny_newTuple ?_ (by show vs.toArray.toList.length<=sizeLine;rw[List.toList_toArray];exact Y14 (Zj (by omega))));refine wpAny_bind (wpAny_newList ?_ (by simp));refine wpAny_holding ?_;have hsz:vs.toArray.size<2:=by rw[Y0e];omega
 dsimp only;rw[if_pos hsz];refine wpAny_bind (wpAny_pure ?_);rw[if_pos hsz];refine wpAny_bind (wpAny_pure ?_);have hae:(Yu s.heap a vs).get? a=some (seqObj "list" #[] e1):=by
  unfold Yu;exact Y02 _ (Y02 _ he1)
 refine wpAny_bind (seqEpoch_at hae rfl ?_);have ha:Array.map (fun x:Keyed=>x.snd) (arrOf (SortSt.mk' general' (vs.toArray.zip vs.toArray) #[] 7 none))=vs.toArray:=by
  show Array.map (fun x:Keyed=>x.snd) (vs.toArray.zip vs.toArray)=vs.toArray;rw[List.zip_toArray,List.map_toArray];congr 1;exact List.map_snd_zip (Y04 _)
 refine wpAny_bind (listUpdate_at hae rfl ?_ (by simp) (by
  show (Array.map (fun x:Keyed=>x.snd) (arrOf (SortSt.mk' general' (vs.toArray.zip vs.toArray) #[] 7 none))).size<=sizeLine+1
  rw[ha,Y0e]
  have:=Zj (n:=vs.length) (by omega)
  omega))
 have hf:failedOf (((),SortSt.mk' general' (vs.toArray.zip vs.toArray) #[] 7 none):Unit×SortSt).snd=none:=rfl;rw[hf];dsimp only;rw[if_neg (by simp)];refine wpAny_pure ?_;rw[ha];exact h
noncomputable def Zin (lt:Nat->Nat->Bool)(n i:Nat):Nat:=((Y03 n).filter fun j=>lt j i).length
theorem Z5O {n:Nat}{p q:Nat->Bool}(h:∀ j,j<n->p j=true->q j=true):((Y03 n).filter p).length<=((Y03 n).filter q).length:=by
 induction n with
 | zero=>simp
 | succ n ih=>
  have h1:=ih fun j hj=>h j (by omega);have h2:=h n (by omega);rw[Y1i,Y10,Y10,Y09,Y09]
  by_cases c:p n=true
  ·rw[Y13 c,Y13 (h2 c)];simp;exact h1
  ·rw[Y1e c];simp;omega
theorem Z85 {n i:Nat}{p q:Nat->Bool}(hi:i<n)(h:∀ j,j<n->p j=true->q j=true)(hp:p i=false)(hq:q i=true):((Y03 n).filter p).length<((Y03 n).filter q).length:=by
 induction n with
 | zero=>omega
 | succ n ih=>
  have h2:=h n (by omega);rw[Y1i,Y10,Y10,Y09,Y09];rcases Y0x i n with c|c
  ·have h1:=ih c fun j hj=>h j (by omega)
   by_cases c:p n=true
   ·rw[Y13 c,Y13 (h2 c)];simp;exact h1
   ·rw[Y1e c];simp;omega
  ·have:i=n:=(by omega);subst this;have h1:=Z5O (n:=i) (p:=p) (q:=q) fun j hj=>h j (by omega);rw[Y1e (by rw[hp];decide),Y13 hq];simp;omega
theorem Zfd {lt:Nat->Nat->Bool}{n:Nat}(ir:∀ i,lt i i=false)(tr:∀ i j k,lt i j=true->lt j k=true->lt i k=true)(nt:∀ i j k,lt i k=true->lt i j=true\/lt j k=true){i j:Nat}(hi:i<n)(hj:j<n) :
  kl (Zin lt n) i j=lt i j:=by
 cases h:lt i j with
 | true=>
  exact decide_eq_true (Z85 hi (fun k _ hk=>tr k i j hk h) (ir i) h)
 | false=>
  refine decide_eq_false (Nat.not_lt.mpr (Z5O fun k _ hk=>?_));rcases nt k i j hk with z|z
  ·exact z
  ·rw[h]at z;cases z
theorem Z8g:∀ a:List Int,HT.lexLt a a=false
 | []=>rfl
 | x::a=>by rw[HT.lexLt_cons,if_pos rfl];exact Z8g a
theorem Zbg:∀ {a b c:List Int},HT.lexLt a b=true->HT.lexLt b c=true->HT.lexLt a c=true
 | [],_,[],_,h=>by cases ‹List Int› <;> simp[HT.lexLt]at h
 | [],_,_::_,_,_=>rfl
 | _::_,[],_,h,_=>by simp[HT.lexLt]at h
 | x::a,y::b,[],_,h=>by simp[HT.lexLt]at h
 | x::a,y::b,z::c,h1,h2=>by
  rw[HT.lexLt_cons]at h1 h2 ⊢
  by_cases e1:x=y
  ·subst e1;rw[if_pos rfl]at h1
   by_cases e2:x=z
   ·subst e2;rw[if_pos rfl]at h2 ⊢;exact Zbg h1 h2
   ·rw[if_neg e2]at h2 ⊢;exact h2
  ·rw[if_neg e1]at h1;have h1:=of_decide_eq_true h1
   by_cases e2:y=z
   ·subst e2;rw[if_neg e1];exact decide_eq_true h1
   ·rw[if_neg e2]at h2;have h2:=of_decide_eq_true h2;rw[if_neg (by omega)];exact decide_eq_true (by omega)
theorem Z7K:∀ {a b:List Int},HT.lexLt a b=false->HT.lexLt b a=false->a=b
 | [],[],_,_=>rfl
 | [],_::_,h,_=>by simp[HT.lexLt]at h
 | _::_,[],_,h=>by simp[HT.lexLt]at h
 | x::a,y::b,h1,h2=>by
  rw[HT.lexLt_cons]at h1 h2
  by_cases e:x=y
  ·subst e;rw[if_pos rfl]at h1 h2;rw[Z7K h1 h2]
  ·rw[if_neg e]at h1;rw[if_neg (fun z=>e z.symm)]at h2;have h1:=of_decide_eq_false h1;have h2:=of_decide_eq_false h2;omega
theorem ZfK {a b c:List Int}(h:HT.lexLt a c=true):HT.lexLt a b=true\/HT.lexLt b c=true:=by
 cases h1:HT.lexLt a b with
 | true=>exact .inl rfl
 | false=>
  right;cases h2:HT.lexLt b a with
  | true=>exact Zbg h2 h
  | false=>rw[<-Z7K h1 h2];exact h
theorem Z75 {h:Heap}{a b:Addr}{vs:List Value}{o:Obj}(hb:b≠a)(e:h.get? b=some o):(Yu h a vs).get? b=some o:=by
 unfold Yu;exact Y02 _ (Y02 _ ((Y1f _ _ hb.symm).trans e))
theorem Z5y {prog:Program}{w:World}{A:Around}{E:Value->Shared->Prop}{s:Shared}{p:Addr}{vs:List Value}{Q:Value->Shared->Prop}(key:Nat->Nat)(κ:SortKind)(hL:s.heap.IsList p vs.toArray)(h64:vs.length<64)(hh:A.handled=none)(hu:A.units+10<cLine)
  (hk:2<=vs.length->∀ (A':Around) (E':Value->Shared->Prop) (R:SortKind->Shared->Prop) (s':Shared),A'.units+5<cLine->(∀ b o,s.heap.get? b=some o->s'.heap.get? b=some o)->(∀ tk,R κ { s' with toks:=tk })->wpAny (model prog w) A' (keyKind' vs.toArray) R E' s')
  (hc:2<=vs.length->∀ (A':Around) i j (C:Bool->Shared->Prop) (s':Shared),A'.units+5<cLine->(∀ b o,s.heap.get? b=some o->s'.heap.get? b=some o)->i<vs.length->j<vs.length->(∀ tk,C (kl key i j) { s' with toks:=tk })->kas_ask prog w A' κ vs i j C s')
  (h:∀ (h1 h2:Heap) (tk e:Nat) (π:List Nat),π.Perm (Y03 vs.length)->π.Pairwise (fun i j=>key i<=key j)->(∀ b o,s.heap.get? b=some o->h1.get? b=some o)->h2.get? h1.objs.size=some (seqObj "list" (π.map fun i=>vs.getD i Value.none).toArray e)->
   (∀ b o,h1.get? b=some o->h2.get? b=some o)->Q (.ref h1.objs.size) { s with heap:=h2,toks:=tk }) :
  wpAny (model prog w) A (call (.builtin "sorted") [.ref p]) Q E s:=by
 refine Calls.call_function_entry kind_sorted plain_sorted entry_sorted (args_sorted1 _) ?_;unfold Builtin.«sorted»;refine wpAny_bind (m:=checkCount "sorted" 1 1 _) (wpAny_pure ?_);have hz:vs.length<=sizeLine:=Y14 (Zj (by lia));refine wpAny_bind (collect_list hL ?_ hz);generalize hh':(Heap.update _ _ _)=h';have hk':∀ b o,s.heap.get? b=some o->h'.get? b=some o:=fun b o e=>by
  rw[<-hh'];exact (Y1f _ _ (Y2e (Y0a e))).trans (Y02 _ e)
 refine wpAny_bind (wpAny_newList ?_ hz);have hD:(h'.push (seqObj "list" vs.toArray 0)).get? h'.objs.size=some (seqObj "list" vs.toArray 0):=Y06 _ rfl;have old:∀ out b o,h'.get? b=some o->(sortedHeap (h'.push (seqObj "list" vs.toArray 0)) h'.objs.size vs out).get? b=some o:=fun out b o q1=>by
  have q2:=Y0a q1;rw[sortedHeap_old (Y0j q2) (by rw[Y19];exact Y1b q2)];exact Y02 _ q1
 have mid:∀ b o,s.heap.get? b=some o->(Yu (h'.push (seqObj "list" vs.toArray 0)) h'.objs.size vs).get? b=some o:=fun b o q1=>by
  have q2:=hk' b o q1;exact Z75 (Y0j (Y0a q2)) (Y02 _ q2)
 rcases Y0x vs.length 2 with c|c
 ·refine wpAny_bind (wpAny_holding (wpAny_call_entry slot_list_sort ⟨_,Y06 _ rfl,rfl⟩ entry_list_sort (Z6c hD c ⟨_,rfl,?_⟩) (args_list_sort _)));obtain⟨e,he⟩:=sortedHeap_at (out:=vs.toArray) (n:=0) hD;have eπ:((Y03 vs.length).map fun i=>vs.getD i Value.none)=vs:=by
   refine Y31 fun i=>?_
   by_cases hi:i<vs.length
   ·simp[hi,Y0h]
   ·simp[hi]
  refine wpAny_pure ⟨_,rfl,h h' _ s.toks e (Y03 vs.length) (List.Perm.refl _) ?_ hk' (by rw[eπ];exact he) (old _)⟩;refine Y25.mpr fun i j hi hj hij=>?_;rw[Y0m]at hi hj;lia
 ·refine wpAny_bind (wpAny_holding (wpAny_call_entry slot_list_sort ⟨_,Y06 _ rfl,rfl⟩ entry_list_sort (Z6w key κ hD c h64 (fun E' R tk hR=>hk c _ E' R _ ?_ mid hR) (fun i j C tk hi hj hC=>hc c _ i j C _ ?_ mid hi hj hC) (fun π tk p1 p2=>⟨_,rfl,?_⟩)) (args_list_sort _)))
  ·simp;lia
  ·simp;lia
  ·obtain⟨e,he⟩:=sortedHeap_at (out:=(π.map fun i=>vs.getD i Value.none).toArray) (n:=0) hD;exact wpAny_pure ⟨_,rfl,h h' _ tk e π p1 p2 hk' he (old _)⟩
section
variable {X:Cx}
theorem Z6R:∀ {as:List Addr} {us:List Value},ZT (as.map V.ref) us->us=as.map Value.ref
 | [],_,h=>by cases h;rfl
 | a::as,_,h=>by
  cases h with
  | cons r t=>
   cases (show _=Value.ref a from r);rw[Z6R t];rfl
theorem Zbd (as:List Addr):ZT (as.map V.ref) (as.map Value.ref):=by
 induction as with
 | nil=>exact .nil
 | cons a as ih=>exact .cons rfl ih
end
def T4 (op:CmpOp)(A:Around)(s:Shared)(y x:Value)(b:Bool):Prop:=
 ∀ (prog:Program) (w:World) (E:Value->Shared->Prop) (Q:Value->Shared->Prop),Q (.bool b) s->wpAny (model prog w) A (richCompare op y x) Q E s
theorem Z5U (A:Around)(s:Shared)(a b:Int)(t u:Tok):T4 .Lt A s (.int a t) (.int b u) (decide (a<b)):=fun prog w E Q h=>
 richCompare_gives (op:=.Lt) (typeIs_int s _ t) (typeIs_int s _ u) PySem.F.slot_int_lt PySem.F.entry_int_lt (PySem.F.args_int_lt_2 _ _) (gives_int_lt _ _ t u) (fun x=>nomatch x) h
theorem Z2J {h:Heap}:∀ {vs:List Value} {xs:List PyData} {as:List Addr},ReadsAll h vs xs as->vs.length=xs.length
 | _,_,_,.nil=>rfl
 | _,_,_,.cons _ t=>by rw[Y0f,Y0f,Z2J t]
theorem U3 {h:Heap}:∀ {vs:List Value} {xs:List PyData} {as:List Addr},ReadsAll h vs xs as->∀ (j:Nat) (h1:j<vs.length),∃ x bs,xs[j]?=some x/\Reads h vs[j] x bs
 | _,_,_,.nil,j,h1=>absurd h1 (Y1w _)
 | _,_,_,.cons r t,0,h1=>⟨_,_,rfl,r⟩
 | _,_,_,.cons r t,j+1,h1=>by
  obtain⟨x,bs,e,q⟩:=U3 t j (Nat.lt_of_succ_lt_succ h1);exact⟨x,bs,by simpa using e,by simpa using q⟩
theorem Z5d:∀ r:List Nat,PyData.depthAll (nd r)<=1
 | []=>Y0y _
 | a::r=>by
  show max (PyData.depth (.int _)) (PyData.depthAll (nd r))<=1;exact Nat.max_le.mpr ⟨by simp[PyData.depth],Z5d r⟩
theorem Zfv (r:List Nat):(PyData.tuple (nd r)).depth<=10:=by
 show PyData.depthAll (nd r)+1<=10;have:=Z5d r;lia
section
variable {prog:Program}{w:World}{A:Around}{R:Result->Shared->Prop}{I:Addr}{fp wr:List Addr}{n:Nat}{P:Nat->Value->Prop}{St:Nat->Heap->Prop}{h0:Heap}
end
section
variable {prog:Program}{w:World}{A:Around}{E:Value->Shared->Prop}{s:Shared}
end
section
variable {X:Cx}
end
theorem Z7J (l b:Addr)(xs ys:Array Value)(n n2:Nat)(dd dd2:Option Addr)(sl sl2:Array (Option Value))(k:Nat)(c:Bool) :
  Meets (Builtin.«tuple.__lt__» ⟨[.ref l,.ref b],[]⟩)
   (fun A R s=>s.heap.get? l=some { cls:=.type "tuple",dict:=dd,data:=.seq xs n,slots:=sl }/\s.heap.get? b=some { cls:=.type "tuple",dict:=dd2,data:=.seq ys n2,slots:=sl2 }/\
    k<=min xs.size ys.size/\(∀ j (h1:j<xs.size) (h2:j<ys.size),j<k->SeqAt.EqAt A.in1 s xs[j] ys[j] true)/\
    (∀ (h1:k<xs.size) (h2:k<ys.size),SeqAt.EqAt A.in1 s xs[k] ys[k] false/\T4 .Lt A.in1 s xs[k] ys[k] c)/\(k=min xs.size ys.size->c=decide (xs.size<ys.size))/\
    R (.ok (.ret (.bool c))) s):=
 .of_wp fun prog w A R s h=>by
  obtain⟨hp,g,d,tk,os⟩:=s;obtain⟨hl,hb,hle,he,hk,hc,hR⟩:=h;have f2:=AutoSeq1.sub_tuple_tuple;have hZ:(xs.toList.zip ys.toList).length=min xs.size ys.size:=by simp
  wp_walk using wpAny_loadPart' hl,wpAny_loadPart' hb,wpAny_forIn_list _ (fun rest b s'=>b.1=none/\s'=⟨hp,g,d,tk,os⟩/\∃ i,i<=k/\rest=(xs.toList.zip ys.toList).drop i) _
  case turn=>
   rintro ⟨y,x⟩ rest b s' ⟨hb',rfl,i,hik,hz⟩;have hlt:i<(xs.toList.zip ys.toList).length:=by
    rcases Y0x i (xs.toList.zip ys.toList).length with h'|h'
    ·exact h'
    ·rw[List.drop_of_length_le h']at hz;cases hz
   have h1:i<xs.size:=(by lia);have h2:i<ys.size:=(by lia);rw[Y26 hlt]at hz;injection hz with hyx hrest
   have hy:y=xs[i]:=by have:=congrArg Prod.fst hyx;simpa using this
   have hx:x=ys[i]:=by have:=congrArg Prod.snd hyx;simpa using this
   subst hy hx;rcases Y0x i k with hlk|hge
   ·refine wpAny_bind (he i h1 h2 hlk prog w _ _ ?_)
    wp_walk
    exact⟨rfl,rfl,i+1,hlk,hrest⟩
   ·have e:i=k:=(by lia);subst e;obtain⟨q1,q2⟩:=hk h1 h2;refine wpAny_bind (q1 prog w _ _ ?_);rw[if_pos (show (!false)=true from rfl)];dsimp only;refine wpAny_bind (wpAny_rule ?_);refine wpAny_bind (q2 prog w _ _ ?_);refine wpAny_bind (wpAny_pure ?_);refine wpAny_pure ?_;exact wpAny_pure ⟨_,rfl,hR⟩
  case fin=>
   rintro ⟨b1,b2⟩ s' ⟨hb',rfl,i,hik,hz⟩;simp only at hb';subst hb';have hge:min xs.size ys.size<=i:=by
    rcases Y0x i (xs.toList.zip ys.toList).length with h'|h'
    ·rw[Y26 h']at hz;cases hz
    ·exact hZ ▸ h'
   have ec:=hc (by lia);subst ec
   wp_walk
   exact⟨_,rfl,by simpa [Builtin.Tuple.tupleCompareSizes] using hR⟩
  case h=>
   exact⟨rfl,rfl,0,Y0y _,rfl⟩
theorem Z7S {A:Around}{s:Shared}{a b:Value}{xs ys:List PyData}{as bs:List Addr}(k:Nat)(c:Bool)(ra:Reads s.heap a (.tuple xs) as)(rb:Reads s.heap b (.tuple ys) bs)(hk:k<=min xs.length ys.length)(hu:A.units<cLine)
  (he:∀ j x y v w as bs,j<k->xs[j]?=some x->ys[j]?=some y->Reads s.heap v x as->Reads s.heap w y bs->SeqAt.EqAt A.in1 s v w true)
  (hd:∀ x y v w as bs,xs[k]?=some x->ys[k]?=some y->Reads s.heap v x as->Reads s.heap w y bs->SeqAt.EqAt A.in1 s v w false/\T4 .Lt A.in1 s v w c)
  (hc:k=min xs.length ys.length->c=decide (xs.length<ys.length)):T4 .Lt A s a b c:=by
 intro prog w E Q h;cases ra with
 | tuple h1 h2 h3 h4=>
  cases rb with
  | tuple k1 k2 k3 k4=>
   rename_i l o vs n l' o' ws n';obtain⟨cls,dd,data,sl⟩:=o;obtain⟨cls',dd',data',sl'⟩:=o';simp only at h2 h3 k2 k3;subst h2 h3 k2 k3;have e1:=Z2J h4;have e2:=Z2J k4;have e1':vs.size=xs.length:=(by rw[<-e1];simp);have e2':ws.size=ys.length:=(by rw[<-e2];simp);refine richCompare_meets_room (op:=.Lt) ⟨_,h1,rfl⟩ ⟨_,k1,rfl⟩ PySem.F.slot_tuple_lt PySem.F.entry_tuple_lt (PySem.F.args_tuple_lt_2 _ _) (Z7J l l' vs ws n n' dd dd' sl sl' k c) ⟨h1,k1,by lia,fun j j1 j2 hj=>?_,fun j1 j2=>?_,fun e=>by rw[hc (by lia),e1',e2'],show Value.bool c≠Value.notImplemented/\Q (.bool c) s from ⟨(fun x=>nomatch x),h⟩⟩ hu
   ·obtain⟨x,xa,ex,rx⟩:=U3 h4 j (by simpa using j1);obtain⟨y,ya,ey,ry⟩:=U3 k4 j (by simpa using j2);exact he j x y _ _ _ _ hj ex ey (by simpa using rx) (by simpa using ry)
   ·obtain⟨x,xa,ex,rx⟩:=U3 h4 k (by simpa using j1);obtain⟨y,ya,ey,ry⟩:=U3 k4 k (by simpa using j2);exact hd x y _ _ _ _ ex ey (by simpa using rx) (by simpa using ry)
noncomputable def YS (r:List Nat):List Int:=r.map fun (x:Nat)=>(x:Int)
theorem Z5J:∀ r q:List Nat,∃ k,k<=min r.length q.length/\(∀ j,j<k->r[j]?=q[j]?)/\(∀ a b,r[k]?=some a->q[k]?=some b->a≠b/\HT.lexLt (YS r) (YS q)=decide (a<b))/\(k=min r.length q.length->HT.lexLt (YS r) (YS q)=decide (r.length<q.length))
 | [],q=>⟨0,Y0y _,fun j h=>absurd h (Y1w _),fun a b h=>by simp at h,fun _=>by
   cases q with
   | nil=>rfl
   | cons b q=>show true=_;simp⟩
 | a::r,[]=>⟨0,Y0y _,fun j h=>absurd h (Y1w _),fun a b _ h=>by simp at h,fun _=>by show false=_;simp⟩
 | a::r,b::q=>by
  have el:HT.lexLt (YS (a::r)) (YS (b::q))=if (a:Int)=(b:Int) then HT.lexLt (YS r) (YS q) else decide ((a:Int)<(b:Int)):=HT.lexLt_cons ..
  by_cases c:a=b
  ·obtain⟨k,h1,h2,h3,h4⟩:=Z5J r q;rw[if_pos (by lia)]at el;refine⟨k+1,by simp only[Y0f];lia,fun j hj=>?_,fun x y hx hy=>?_,fun hk=>?_⟩
   ·cases j with
    | zero=>simp[c]
    | succ j=>simpa using h2 j (by lia)
   ·rw[el];exact h3 x y (by simpa using hx) (by simpa using hy)
   ·rw[el,h4 (by simp only[Y0f]at hk;lia)];exact decide_eq_decide.mpr ⟨fun h=>by simp only[Y0f];lia,fun h=>by simp only[Y0f]at h;lia⟩
  ·rw[if_neg (by lia)]at el;refine⟨0,Y0y _,fun j hj=>absurd hj (Y1w _),fun x y hx hy=>?_,fun hk=>by simp only[Y0f]at hk;lia⟩;cases hx;cases hy;exact⟨c,by rw[el];exact decide_eq_decide.mpr ⟨fun h=>by lia,fun h=>by lia⟩⟩
theorem Z9Q {A:Around}{s:Shared}{a b:Value}{r q:List Nat}{as bs:List Addr}(ra:Reads s.heap a (.tuple (nd r)) as)(rb:Reads s.heap b (.tuple (nd q)) bs)(hu:A.units<cLine):T4 .Lt A s a b (HT.lexLt (YS r) (YS q)):=by
 obtain⟨k,hk,heq,hne,hall⟩:=Z5J r q;refine Z7S k _ ra rb (by simpa [nd] using hk) hu (fun j x y v w as bs hj hx hy rx ry=>?_) (fun x y v w as bs hx hy rx ry=>?_) (fun e=>by rw[hall (by simpa [nd] using e)];simp[nd])
 ·have:=heq j hj;simp only[nd,Y0l]at hx hy;rw[this]at hx;rw[hx]at hy;cases hy;obtain⟨m,_,rfl⟩:=Option.map_eq_some_iff.mp hx;cases rx with
  | int _ t=>
   cases ry with
   | int _ t'=>
    have:=SeqAt.EqAt.int_int (A:=A.in1) (s:=s) (m:Int) t (m:Int) t'
    simpa using this
 ·simp only[nd,Y0l]at hx hy;obtain⟨m,hm,rfl⟩:=Option.map_eq_some_iff.mp hx;obtain⟨m',hm',rfl⟩:=Option.map_eq_some_iff.mp hy;obtain⟨q1,q2⟩:=hne m m' hm hm';cases rx with
  | int _ t=>
   cases ry with
   | int _ t'=>
    refine⟨?_,?_⟩
    ·have:=SeqAt.EqAt.int_int (A:=A.in1) (s:=s) (m:Int) t (m':Int) t';have e:((m:Int)==(m':Int))=false:=by simpa using fun h:(m:Int)=m'=>q1 (by lia)
     rwa [e]at this
    ·have:=Z5U A.in1 s m m' t t';have e:decide ((m:Int)<(m':Int))=HT.lexLt (YS r) (YS q):=by rw[q2];exact decide_eq_decide.mpr ⟨fun h=>by lia,fun h=>by lia⟩
     rwa [e]at this
noncomputable def bd (a b:Nat)(c:List Nat):PyData:=.tuple [.int a,.int b,.tuple (nd c)]
noncomputable def XI (a b:Nat)(c:List Nat):List Int:=YS (a::b::c)
theorem Zff (a b a' b':Nat)(c c':List Nat):HT.lexLt (XI a b c) (XI a' b' c')=if a=a' then (if b=b' then HT.lexLt (YS c) (YS c') else decide (b<b')) else decide (a<a'):=by
 show HT.lexLt ((a:Int)::(b:Int)::YS c) ((a':Int)::(b':Int)::YS c')=_;rw[HT.lexLt_cons,HT.lexLt_cons]
 by_cases e:a=a'
 ·rw[if_pos e,if_pos (by lia)]
  by_cases f:b=b'
  ·rw[if_pos f,if_pos (by lia)]
  ·rw[if_neg f,if_neg (by lia)];exact decide_eq_decide.mpr ⟨fun h=>by lia,fun h=>by lia⟩
 ·rw[if_neg e,if_neg (by lia)];exact decide_eq_decide.mpr ⟨fun h=>by lia,fun h=>by lia⟩
theorem Z69 {h:Heap}{x:Value}{a b:Nat}{c:List Nat}{as:List Addr}(r:Reads h x (bd a b c) as):∃ (p:Addr) (o:Obj) (vs:Array Value) (n:Nat) (t t':Tok) (v:Value) (bs:List Addr),x=.ref p/\h.get? p=some o/\o.cls=.type "tuple"/\o.data=.seq vs n/\vs.toList=[.int a t,.int b t',v]/\Reads h v (.tuple (nd c)) bs:=by
 cases r with
 | tuple h1 h2 h3 h4=>
  rename_i p o vs n;generalize hv:vs.toList=L at h4;cases h4 with
  | cons r1 t1=>
   cases t1 with
   | cons r2 t2=>
    cases t2 with
    | cons r3 t3=>
     cases t3;cases r1 with
     | int _ t=>
      cases r2 with
      | int _ t'=>exact⟨p,o,vs,n,t,t',_,_,rfl,h1,h2,h3,hv,r3⟩
theorem ZcH {prog:Program}{w:World}{A:Around}{E:Value->Shared->Prop}{s:Shared}{x y:Value}{a b a' b':Nat}{c c':List Nat}{as bs:List Addr}{Q:Bool->Shared->Prop}(rx:Reads s.heap x (bd a b c) as)(ry:Reads s.heap y (bd a' b' c') bs)(hu:A.units+4<cLine)
  (h:Q (HT.lexLt (XI a b c) (XI a' b' c')) s):wpAny (model prog w) A (keyLt' (tuples' true) x y) Q E s:=by
 obtain⟨p,o,vs,n,t1,t2,v,_,rfl,g1,_,g3,gv,r3⟩:=Z69 rx;obtain⟨p',o',ws,n',t1',t2',v',_,rfl,k1,_,k3,kv,q3⟩:=Z69 ry;refine kat_lt g1 g3 k1 k3 ?_;have e1:vs.size=3:=by rw[<-Y2n,gv];rfl
 have e2:ws.size=3:=by rw[<-Y2n,kv];rfl
 rw[gv,kv,e1,e2];rw[Zff]at h;refine kat_cons (SeqAt.EqAt.int_int (A:=A) (s:=s) (a:Int) t1 (a':Int) t1' prog w _ _ (kat_go (fun e=>kat_yes ?_) (fun e=>kat_no ?_)))
 ·have ea:a=a':=by have:=eq_of_beq e;lia
  rw[if_pos ea]at h;refine kat_cons (SeqAt.EqAt.int_int (A:=A) (s:=s) (b:Int) t2 (b':Int) t2' prog w _ _ (kat_go (fun e=>kat_yes ?_) (fun e=>kat_no ?_)))
  ·have eb:b=b':=(by have:=eq_of_beq e;lia);rw[if_pos eb]at h;have eq2:PyData.eqv (.tuple (nd c)) (.tuple (nd c'))=decide (c=c'):=SS c c';have deep:=Zfv c;have d1:(PyData.tuple (nd c)).depth<=3:=by
    show PyData.depthAll (nd c)+1<=3;have:=Z5d c;lia
   have:=SeqAt.eqAt_reads (.tuple (nd c)) (.tuple (nd c')) A s v v' _ _ r3 q3 (Ui c) (Ui c') (by lia);rw[eq2]at this;refine kat_cons (this prog w _ _ (kat_go (fun e=>kat_yes (kat_nil ?_)) (fun e=>kat_no ?_)))
   ·have ec:c=c':=of_decide_eq_true e;rw[ec,Z8g]at h;exact h
   ·show wpAny (model prog w) A (oneLt' false v v') Q _ s;exact kat_one v v' (Z9Q r3 q3 (by lia) prog w _ _ h)
  ·have eb:¬ b=b':=fun z=>by rw[z]at e;simp at e
   rw[if_neg eb]at h;show wpAny (model prog w) A (oneLt' false _ _) Q _ s;refine kat_one _ _ (Z5U A s b b' t2 t2' prog w _ _ ?_);have ed:decide ((b:Int)<(b':Int))=decide (b<b'):=decide_eq_decide.mpr ⟨fun h=>by lia,fun h=>by lia⟩;rw[ed];exact h
 ·have ea:¬ a=a':=fun z=>by rw[z]at e;simp at e
  rw[if_neg ea]at h;show wpAny (model prog w) A (oneLt' true _ _) Q _ s;refine oneLt_int ?_;have ed:decide ((a:Int)<(a':Int))=decide (a<a'):=decide_eq_decide.mpr ⟨fun h=>by lia,fun h=>by lia⟩;rw[ed];exact h
def XC (H:Hp)(x:Addr)(a b:Nat)(c:List Nat):Prop:=∃ t,H x=some (.tup [.int (a:Int),.int (b:Int),.ref t])/\H t=some (.tup (nv c))
theorem XC.dt {K:Y00}{H:Hp}{x:Addr}{a b:Nat}{c:List Nat}(h:XC H x a b c):Dt K H (.ref x) (bd a b c):=by
 obtain⟨t,h1,h2⟩:=h;exact .tup (SqT.of h1) (.cons (.int _) (.cons (.int _) (.cons (.tup (SqT.of h2) (SJ c)) .nil)))
section
variable {X:Cx}
def Z93 (K:Y00):List V->Hp->VK->Prop:=fun xs H Q=>∃ (p:Addr) (as:List Addr) (A B:Nat->Nat) (C:Nat->List Nat),xs=[.ref p]/\SqL K H p (as.map V.ref)/\as.length<64/\
 (∀ i,i<as.length->XC H (as.getD i 0) (A i) (B i) (C i))/\
 ∀ (l:Addr) (π:List Nat),H l=none->π.Perm (Y03 as.length)->π.Pairwise (fun i j=>HT.lexLt (XI (A j) (B j) (C j)) (XI (A i) (B i) (C i))=false)->Q (.ref l) (upd H l (.lst ((π.map fun i=>as.getD i 0).map V.ref)))
theorem Z98 {h:Heap}:∀ {as:List Addr} (F:Nat->Value),(∀ i,i<as.length->∃ (o:Obj) (xs:Array Value) (n:Nat),h.get? (as.getD i 0)=some o/\o.cls=.type "tuple"/\o.data=.seq xs n/\xs[0]?=some (F i))->KatTups h (as.map Value.ref) ((Y03 as.length).map F)
 | [],_,_=>KatTups.nil
 | a::as,F,g=>by
  obtain⟨o,xs,n,h1,h2,h3,h4⟩:=g 0 (by simp);have ih:=Z98 (as:=as) (fun i=>F (i+1)) fun i hi=>by simpa using g (i+1) (by simpa using hi)
  rw[Y0f,List.range_succ_eq_map,Y0w,Y0w,Y2b];exact KatTups.cons (by simpa using h1) h2 h3 h4 ih
theorem Z7v (hc:X.calm=true)(hu:X.A.units+10<cLine):YM X (.builtin "sorted") (Z93 X.K):=by
 intro pins s σ H xs us Q I rr h;obtain⟨p,as,A,B,C,rfl,hq,h64,hB,q⟩:=h;obtain⟨u,rfl,ru⟩:=YE rr;obtain rfl:u=Value.ref p:=ru;obtain⟨its,rv,pl,hz⟩:=I.list hq;have ei:=Z6R rv;subst ei;have hlen:(as.map Value.ref).length=as.length:=Y05 ..;have hget:∀ i,i<as.length->(as.map Value.ref).getD i Value.none=.ref (as.getD i 0):=fun i hi=>by
  simp[Y0h,hi]
 let lt:Nat->Nat->Bool:=fun i j=>HT.lexLt (XI (A i) (B i) (C i)) (XI (A j) (B j) (C j))
 have hkl:∀ i j,i<as.length->j<as.length->kl (Zin lt as.length) i j=lt i j:=fun i j hi hj=>Zfd (lt:=lt) (fun i=>Z8g _) (fun i j k h1 h2=>Zbg (b:=XI (A j) (B j) (C j)) h1 h2) (fun i j k h=>ZfK (b:=XI (A j) (B j) (C j)) h) hi hj;have hrd:∀ i,i<as.length->∃ ps,Reads s.heap (.ref (as.getD i 0)) (bd (A i) (B i) (C i)) ps:=fun i hi=>Dt.reads I (hB i hi).dt rfl;have hfst:∀ i,∃ v:Value,i<as.length->∃ (t:Tok) (o:Obj) (xs:Array Value) (n:Nat),v=.int (A i) t/\s.heap.get? (as.getD i 0)=some o/\o.cls=.type "tuple"/\o.data=.seq xs n/\xs[0]?=some v:=fun i=>by
  by_cases hi:i<as.length
  ·obtain⟨ps,r⟩:=hrd i hi;obtain⟨p',o,vs,n,t,t',v,_,e,g1,g2,g3,gv,_⟩:=Z69 r;injection e with e
   subst e;exact⟨.int (A i) t,fun _=>⟨t,o,vs,n,rfl,g1,g2,g3,by rw[<-Y2w,gv];rfl⟩⟩
  ·exact⟨.none,fun z=>absurd z hi⟩
 refine Z5y (Zin lt as.length) (tuples' true) pl.isList (by rw[hlen];exact h64) (I.ok.hd hc) hu (fun c A' E' R s' _ hs hR=>?_) (fun c A' i j C' s' hu' hs hi hj hC=>?_) (fun h1 h2 tk e π p1 p2 hk he hk2=>?_)
 ·let F:Nat->Value:=fun i=>Classical.choose (hfst i)
  have hF:∀ i,i<as.length->∃ (t:Tok) (o:Obj) (xs:Array Value) (n:Nat),F i=.int (A i) t/\s.heap.get? (as.getD i 0)=some o/\o.cls=.type "tuple"/\o.data=.seq xs n/\xs[0]?=some (F i):=fun i hi=>Classical.choose_spec (hfst i) hi;refine kat_kind (T:=.type "int") (Z98 F fun i hi=>?_) (by simp;rw[hlen]at c;lia) (fun v hv=>?_) rfl (hR s'.toks)
  ·obtain⟨t,o,xs,n,_,g1,g2,g3,g4⟩:=hF i hi;exact⟨o,xs,n,hs _ _ g1,g2,g3,g4⟩
  ·obtain⟨i,hi,rfl⟩:=Y0d.mp hv;obtain⟨t,_,_,_,e,_⟩:=hF i (Y08.mp hi);rw[e];exact fun A'' Q'' E'' s'' hs'' q''=>wpAny_pure q''
 ·rw[hlen]at hi hj;unfold kas_ask;rw[hget i hi,hget j hj];obtain⟨pa,ra⟩:=hrd i hi;obtain⟨pb,rb⟩:=hrd j hj;have hC:=hC s'.toks;rw[hkl i j hi hj]at hC;exact ZcH (Reads.keeps hs ra) (Reads.keeps hs rb) (by lia) hC
 ·rw[hlen]at p1;have I1:Inv X pins σ H { s with heap:=h1,toks:=tk }:=I.kept hk;have hl:(π.map fun i=>as.getD i 0).length<64:=by rw[Y05,p1.length_eq,Y0m];exact h64
  have hv:(π.map fun i=>(as.map Value.ref).getD i Value.none)=(π.map fun i=>as.getD i 0).map Value.ref:=by
   rw[Y2b];refine Y3w fun i hi=>?_;exact hget i (Y08.mp (p1.mem_iff.mp hi))
  rw[hv]at he;refine⟨.ref h1.objs.size,_,I1.laid (a:=h1.objs.size) (o:=.lst ((π.map fun i=>as.getD i 0).map V.ref)) (h':=h2) (t':=tk) hk2 (Y04 _) ⟨?_,_,e,Zbd _,he⟩,rfl,q _ π (I1.hok.fresh (Y04 _)) p1 ?_⟩
  ·rw[Y05];exact Y14 (Zj (by lia))
  ·refine p2.imp_of_mem fun {i j} hi hj hij=>?_;have hi:=Y08.mp (p1.mem_iff.mp hi);have hj:=Y08.mp (p1.mem_iff.mp hj);have:=hkl j i hj hi;show lt j i=false;rw[<-this];exact decide_eq_false (by lia)
end
end L2
namespace K1
open PySem L2 Sq
noncomputable def Yk (c:Nat)(ms:List Int):List Nat:=YK c (ms.map dg)
theorem Vy {m:Int}(h:m.natAbs<=1000):(dg m).length<=1001:=by
 have e:(Str.ofString (toString m)).length<=1001:=by rw[ofString_length];exact int_text_length_le (by decide) (VD h)
 rw[<-Yl,ZD]at e;exact e
theorem ZcU (c:Nat)(zs:List (List Nat)):Txt.join (txt [c]) (zs.map txt)=txt (YK c zs):=by
 show Builtin.Str.glued _ _=_;rw[StrLaws.glued_eq_join,<-Uc (Str.join _ _),Z63,Y2b];congr 2;have e:(fun x:Str=>x.cps.toList) ∘ txt=id:=funext fun z=>VJ z;rw[show (fun x:Str=>x.cps.toList) ∘ txt=id from e,Y4a]
theorem Z6o {B:Nat}:∀ {zs:List (List Nat)},(∀ z∈zs,z.length<=B)->((zs.map txt).map (·.length)).sum<=zs.length*B
 | [],_=>by simp
 | z::zs,h=>by
  have h1:=h z (by simp);have h2:=Z6o (zs:=zs) fun y hy=>h y (by simp[hy]);simp only[Y0w,List.sum_cons,Y0f,ZD,Nat.succ_mul];omega
theorem Zcc {K:Y00}{H:Hp}{d:Addr}{c B:Nat}{zs:List (List Nat)}{Q:VK}(h:H d=some (.lst (sv zs)))(hn:zs.length<=1000)(hB:∀ z∈zs,z.length<=B)(hb:B<=1001)(q:Q (.str (txt (YK c zs))) H):WV K (.str (txt [c])) [.ref d] H Q:=by
 refine⟨_,d,zs.map txt,rfl,rfl,.inl (SqL.of (by rw[ZaA];exact h)),?_,?_⟩
 ·have h1:=Z6o hB;have h2:zs.length*B<=1000*1001:=Nat.mul_le_mul hn hb;rw[Y05,ZD];show _+zs.length*1<=_;omega
 ·rw[ZcU];exact q
theorem Z7T {K:Y00}{Hc:Hp}{p:Addr}{ms:List Int}{tl:TE}{Q:VK}{σ:St}(hj:∀ R:VK,R (.ref p) Hc->tl σ Hc R)(hp:SqT K Hc p (ms.map V.int)\/SqL K Hc p (ms.map V.int))(hm:∀ x∈ms,x.natAbs<=1000)(hn:ms.length<=1000)
  (k:∀ (H':Hp) (d:Addr),Z7 Hc H'->H' d=some (.lst (sv (ms.map dg)))->Q (.ref d) H') :
  YO (fun σ H R=>WS K tl σ H R\/Yr K tl σ H R) 1 [] (ZC 0) (tCB (fun xs H Q=>∃ i:Int,xs=[.int i]/\i.natAbs.log2<1920/\Q (.str (toString i)) H) (ZM (ZW 0) Zx)) σ Hc Q:=by
 have core:∀ (J:It),(∀ H3,Z7 Hc H3->(∀ i (hi:i<ms.length),J.go i H3/\∀ x H2,J.yld i H3 x H2->H2=H3/\x=.int ms[i])/\J.stop ms.length H3)->∀ d,Hc d=none->
   ∃ W:Nat->Nat->St->Hp->Prop,(∃ m,W 0 m (bst 1 [] σ) (upd Hc d (.lst [])))/\∀ i m σ' H',W i m σ' H'->
    (J.stop i H'/\Q (.ref d) H')\/(J.go i H'/\∀ x H2,J.yld i H' x H2->ZC 0 x σ' H2 fun σ3 H3=>tCB (fun xs H Q=>∃ i:Int,xs=[.int i]/\i.natAbs.log2<1920/\Q (.str (toString i)) H) (ZM (ZW 0) Zx) σ3 H3 fun y H4=>∃ xs,H4 d=some (.lst xs)/\xs.length<sizeLine/\∃ m',m'<m/\W (i+1) m' σ3 (upd H4 d (.lst (xs++[y])))):=by
  intro J hJ d hd;refine YR (Q:=fun d H'=>Q (.ref d) H') ms.length (sv (ms.map dg)) (by rw[XB,Y05]) (fun i σ' H3=>∃ o,σ'=[o]/\Z7 Hc H3) ⟨none,rfl,Z4 (Z7.refl _) hd⟩ ?_ ?_
  ·rintro i σ' H3 hi ⟨o,rfl,s3⟩ hd3;obtain⟨g1,g2⟩:=(hJ H3 s3).1 i hi;refine⟨g1,fun x H4 hy=>?_⟩;obtain⟨e1,e2⟩:=g2 x H4 hy;subst e1 e2;refine⟨_,rfl,ms[i],rfl,Y2y (VD (hm _ (Y15 hi))) (by decide),?_⟩;refine YN hi hn hd3 ?_ ⟨_,rfl,Z4 s3 hd⟩;rw[Zaf (z:=dg ms[i]) (by rw[Y0l,Y01 hi];rfl),Yl]
  ·rintro σ' H3 ⟨o,rfl,s3⟩ hd3;exact⟨(hJ H3 s3).2,k H3 d s3 hd3⟩
 have hg:∀ {i:Nat} (hi:i<ms.length),(ms.map V.int)[i]?=some (.int ms[i]):=fun hi=>by rw[Y0l,Y01 hi];rfl
 rcases hp with h|h
 ·refine .inl (hj _ ⟨p,rfl,⟨_,h⟩,core _ fun H3 s3=>⟨fun i hi=>⟨⟨_,_,Z7.tseq s3 h,hg hi⟩,fun x H2 ⟨e,hy⟩=>⟨e,?_⟩⟩,⟨_,Z7.tseq s3 h,by rw[Y05];exact Y04 _⟩⟩⟩);have:=hy _ (Z7.tseq s3 h);rw[hg hi]at this;exact (Option.some.inj this).symm
 ·refine .inr (hj _ ⟨p,rfl,⟨_,h⟩,core _ fun H3 s3=>⟨fun i hi=>⟨⟨_,_,s3.seq h,hg hi⟩,fun x H2 ⟨e,hy⟩=>⟨e,?_⟩⟩,⟨_,s3.seq h,by rw[Y05];exact Y04 _⟩⟩⟩);have:=hy _ (s3.seq h);rw[hg hi]at this;exact (Option.some.inj this).symm
def Zjg (K:Y00):Sp:=fun vs H Q _=>∃ (p:Addr) (ms:List Int) (c:Nat),vs=[.ref p,.str (txt [c])]/\(SqT K H p (ms.map V.int)\/SqL K H p (ms.map V.int))/\(∀ x∈ms,x.natAbs<=1000)/\ms.length<=1000/\∀ H':Hp,Z7 H H'->Q (.str (txt (Yk c ms))) H'
noncomputable def XM (b:Nat×Nat×List Nat):List Nat:=Yk 120 [(b.1:Int),(b.2.1:Int)]++[43]++Yk 44 (b.2.2.map fun x:Nat=>(x:Int))
theorem Z4D {c:Nat}{ms:List Int}(h:∀ x∈ms,x.natAbs<=1000):(Yk c ms).length<=ms.length*1002:=by
 unfold Yk
 induction ms with
 | nil=>exact Y0y _
 | cons m ms ih=>
  have h1:=Vy (h m (by simp));have h2:=ih fun x hx=>h x (by simp[hx]);cases ms with
  | nil=>show (dg m).length<=_;simp;omega
  | cons m2 ms=>
   show (dg m++c::YK c ((m2::ms).map dg)).length<=_;rw[Y09,Y0f];simp only[Y0f]at h2 ⊢;omega
def Wc (b:Nat×Nat×List Nat):Prop:=b.1<=999/\b.2.1<=999/\b.2.2.length<=100/\∀ x∈b.2.2,x<=999
theorem Wc.sh {b:Nat×Nat×List Nat}(h:Wc b):∀ x∈b.2.2.map (fun x:Nat=>(x:Int)),x.natAbs<=1000:=by
 intro x hx;obtain⟨y,hy,rfl⟩:=Y0d.mp hx;have:=h.2.2.2 y hy;omega
theorem Wc.wl {b:Nat×Nat×List Nat}(h:Wc b):∀ x∈[(b.1:Int),(b.2.1:Int)],x.natAbs<=1000:=by
 intro x hx;simp at hx;obtain⟨h1,h2,_⟩:=h;rcases hx with rfl|rfl<;>omega
def Zi3:Sp:=fun vs H Q _=>∃ (a:Addr) (b:Nat×Nat×List Nat),vs=[.ref a]/\XC H a b.1 b.2.1 b.2.2/\Wc b/\∀ H':Hp,Z7 H H'->Q (.str (txt (XM b))) H'
theorem TM:(Str.ofString "x")=txt [120]:=by decide +kernel
theorem UC:(Str.ofString "+")=txt [43]:=by decide +kernel
theorem Z8N:(Str.ofString ",")=txt [44]:=by decide +kernel
section
variable {P:Program}{w:World}{K:Y00}{mg:Str->Option Value}{base:Heap}
noncomputable abbrev n_nt:List Str:=["numbers","sign"]
theorem Ziv:ZO n_nt ["numbers","sign"] (Z0 WL):=⟨rfl,rfl,rfl,by decide +kernel,rfl,by decide +kernel,by decide +kernel⟩
theorem Zit:(["number"]:List Str).Nodup:=by decide +kernel
theorem Zi7 {f:Addr}{fd:FuncData}(Ts:mg "str"=none)(F:Fn K mg "numbers_text" WL ["numbers","sign"] f fd):Z6 P w K mg base CX0 1 f fd ["numbers","sign"] (Zjg K):=by
 refine F.F.ok Ziv (fun vs H Q E h=>?_) (fun cdv A outer s H vs Q E hr h=>?_)
 ·obtain⟨p,ms,c,rfl,_⟩:=h;rfl
 ·obtain⟨p,ms,c,rfl,hp,hm,hn,k⟩:=h;refine⟨_,Z1 (ZS (Zg PySem.F.plainAttrs_str PySem.F.slot_str_join PySem.F.type_str_join Xj (pv 1) (Z9 (Y6 (N:=n_nt) (names:=(Z0 WL).names) (N':=["number"]) (k:=1) (pull:=[]) (te:=tCB (fun xs H Q=>∃ i:Int,xs=[.int i]/\i.natAbs.log2<1920/\Q (.str (toString i)) H) (ZM (ZW 0) Zx)) rfl ⟨by rfl,by decide +kernel,by decide +kernel,by rfl,by decide +kernel,by decide +kernel⟩ rfl rfl (PI.or' (XQ (pv 0)) (Y5 (pv 0))) (fun _ _ _ _ _ _=>ZE (i:=0) Zit rfl (Or.inl rfl)) (fun _ _ _ _ _ _=>Y7 Xb rfl Ts Xo (Z9 (pv 0) Z8))) Z8))),?_⟩;refine⟨_,rfl,rfl,?_⟩;dsimp only [ZM,Zx];refine Z7T (fun R hR=>⟨_,rfl,hR⟩) hp hm hn fun H1 d s1 hd=>?_;refine Zcc (B:=1001) hd (by rw[Y05];exact hn) (fun z hz=>?_) (by decide) (k H1 s1);obtain⟨m,h1,rfl⟩:=Y0d.mp hz;exact Vy (hm m h1)
noncomputable abbrev Zio:List Str:=["band"]
theorem ZgF:ZO Zio ["band"] (Z0 UV):=⟨rfl,rfl,rfl,by decide +kernel,rfl,by decide +kernel,by decide +kernel⟩
theorem ZgZ {f fn:Addr}{fd dn:FuncData}(FN:Fn K mg "numbers_text" WL ["numbers","sign"] fn dn)(GN:Z6 P w K mg base CX0 1 fn dn ["numbers","sign"] (Zjg K))(F:Fn K mg "band_text" UV ["band"] f fd):Z6 P w K mg base CX0 2 f fd ["band"] Zi3:=by
 refine F.F.ok ZgF (fun vs H Q E h=>?_) (fun cdv A outer s H vs Q E hr h=>?_)
 ·obtain⟨a,b,rfl,_⟩:=h;rfl
 ·obtain⟨a,b,rfl,⟨t,h1,h2⟩,hb,k⟩:=h;have big:1000000<=sizeLine:=by decide
  have hr1:ZR 1 _:=hr.mono (by decide);refine⟨_,Z1 (ZS (ZJ YI (ZJ YI (ZU GN hr1 rfl FN.m FN.F.kp FN.b .nil ZX (Z9 (UM Zh7 (pv 0) Uq (Ux Z3)) (Z9 ZH Z8))) ZH) (ZU GN hr1 rfl FN.m FN.F.kp FN.b .nil ZX (Z9 (ZY ZA (pv 0) Z3 (fun _ _=>rfl)) (Z9 ZH Z8))))),?_⟩;have l1:=Z4D (c:=120) hb.wl;have l2:=Z4D (c:=44) hb.sh;rw[Y05]at l2;have l3:b.2.2.length*1002<=100*1002:=Nat.mul_le_mul_right _ hb.2.2.1;simp only[Y0f,Y28]at l1;refine⟨_,rfl,_,rfl,a,_,rfl,SqT.of h1,(fun z=>by have:=z.2;revert this;show ¬ ((2:Nat)=3);decide),fun p hp=>?_⟩;have ec:Yi [V.int (b.1:Int),V.int (b.2.1:Int),V.ref t] none (some 2)=[V.int (b.1:Int),V.int (b.2.1:Int)]:=rfl;rw[ec];have s1:=Z4 (o:=.tup [V.int (b.1:Int),V.int (b.2.1:Int)]) (Z7.refl H) hp;have hp1:(upd H p (.tup [V.int (b.1:Int),V.int (b.2.1:Int)])) p=some (.tup [V.int (b.1:Int),V.int (b.2.1:Int)]):=Z2;generalize upd H p (.tup [V.int (b.1:Int),V.int (b.2.1:Int)])=H1 at s1 hp1;refine⟨p,[(b.1:Int),(b.2.1:Int)],120,by rw[TM];rfl,.inl (SqT.of hp1),hb.wl,(by show 2<=1000;decide),fun H2 s2=>?_⟩;refine⟨_,_,rfl,rfl,by rw[UC,ZD,ZD];simp;omega,?_⟩;have sA:=s1.trans s2;refine⟨_,rfl,a,_,2,_,rfl,rfl,SqT.of (sA _ _ h1),ZV (j:=2) rfl,t,b.2.2.map fun x:Nat=>(x:Int),44,by rw[Z8N];rfl,.inl (SqT.of (by rw[<-Ud];exact sA _ _ h2)),hb.sh,by rw[Y05];have:=hb.2.2.1;omega,fun H3 s3=>?_⟩;refine⟨_,_,rfl,rfl,?_,?_⟩
  ·rw[UC,Zh,ZD,ZD,Y09];simp;omega
  ·rw[UC,Zh,Zh];exact k H3 (sA.trans s3)
end
end K1
namespace K1
open Sq
theorem V6 (n:Nat)(w:List Nat):(Zp n w).length<=n:=by
 unfold Zp;rw[Y05];have:=Y0u (Zq n w) (Y03 n)
 rwa [Y0m]at this
end K1
namespace K1
open PySem L2 Sq
theorem Z7e {Hc:Hp}{m:Nat}{ta:TA}{te:TE}{pull:List Nat}{Q:VK}{σ:St}{rest:St}(g:Nat->Nat)(hj:∀ R:List V->Hp->Prop,R [.int (m:Int)] Hc->ta σ Hc R)(hb:bst 1 pull σ=none::rest)
  (hte:∀ (i:Nat) (H:Hp) (R:VK),i<m->Z7 Hc H->R (.int (g i:Int)) H->te (some (.int (i:Int))::rest) H R) (hm:m<=1000)
  (k:∀ (H':Hp) (d:Addr),Z7 Hc H'->Hc d=none->H' d=some (.lst (nv ((Y03 m).map g)))->Q (.ref d) H') :
  YO (SB ta) 1 pull (ZC 0) te σ Hc Q:=by
 refine hj _ ⟨(m:Int),rfl,by omega,by omega,fun d hd=>?_⟩;rw[Y0q,hb];refine YR (J:=Itr 0 m) (Q:=fun d H'=>Q (.ref d) H') m (nv ((Y03 m).map g)) (by rw[ZQ];simp) (fun i σ H9=>(∃ o,σ=o::rest)/\Z7 Hc H9) ⟨⟨_,rfl⟩,Z4 (Z7.refl _) hd⟩ ?_ ?_
 ·rintro i σ H9 hi ⟨⟨o,rfl⟩,s9⟩ hd9;refine⟨hi,fun x H4 ⟨e1,e2⟩=>?_⟩;subst e1 e2;rw[show (0:Int)+(i:Int)=(i:Int) from by omega];refine hte i _ _ hi s9 ?_;refine YN hi (by omega) hd9 (Zy (by simp[hi])) ⟨⟨_,rfl⟩,Z4 s9 hd⟩
 ·rintro σ H9 ⟨⟨o,rfl⟩,s9⟩ hd9;exact⟨Y04 _,k H9 d s9 hd hd9⟩
theorem ZdK {K:Y00}{Hc:Hp}{p:Addr}{r:List Nat}{j:Nat}{te:TE}{pull:List Nat}{Q:VK}{σ:St}{rest:St}(g:Nat->Nat)(hj:σ[j]?=some (some (.ref p)))(hp:SqT K Hc p (nv r))(hb:bst 1 pull σ=none::rest)
  (hte:∀ (x:Nat) (H:Hp) (R:VK),x∈r->Z7 Hc H->R (.int (g x:Int)) H->te (some (.int (x:Int))::rest) H R) (hn:r.length<=1000)
  (k:∀ (H':Hp) (d:Addr),Z7 Hc H'->Hc d=none->H' d=some (.lst (nv (r.map g)))->Q (.ref d) H') :
  YO (WS K (ZW j)) 1 pull (ZC 0) te σ Hc Q:=by
 refine⟨_,hj,p,rfl,⟨_,hp⟩,fun d hd=>?_⟩;rw[hb];refine YR (Q:=fun d H'=>Q (.ref d) H') r.length (nv (r.map g)) (by rw[ZQ];simp) (fun i σ H3=>(∃ o,σ=o::rest)/\Z7 Hc H3) ⟨⟨_,rfl⟩,Z4 (Z7.refl _) hd⟩ ?_ ?_
 ·rintro i σ H3 hi ⟨⟨o,rfl⟩,s3⟩ hd3;have hp3:=Z7.tseq s3 hp;have hg:=Zy (Y01 hi);refine⟨⟨_,_,hp3,hg⟩,fun y H4 ⟨e,hy⟩=>?_⟩;subst e;have hy:=hy _ hp3;rw[hg]at hy;cases hy;refine hte _ _ _ (Y15 hi) s3 ?_;exact YN hi hn hd3 (Zy (by simp[hi])) ⟨⟨_,rfl⟩,Z4 s3 hd⟩
 ·rintro σ H3 ⟨⟨o,rfl⟩,s3⟩ hd3;exact⟨⟨_,Z7.tseq s3 hp,by rw[ZQ];exact Y04 _⟩,k H3 d s3 hd hd3⟩
noncomputable def Zn (r u:List Nat):List Nat:=(Y03 r.length).map fun k=>nx u (nx r (nx (back u) (nx (back r) k)))
theorem Z51 (r u:List Nat):(Zn r u).length=r.length:=by simp[Zn]
theorem Ta {n:Nat}{r u:List Nat}(rr:Row n r){k:Nat}(hk:k<n):nx (Zn r u) k=nx u (nx r (nx (back u) (nx (back r) k))):=by
 have:k<r.length:=by rw[rr.len];exact hk
 simp[nx,Zn,Y3b,this]
theorem WG {n:Nat}{r u:List Nat}(rr:Row n r)(ru:Row n u):Row n (Zn r u):=by
 refine Zeo (by rw[Z51,rr.len]) (fun i hi=>?_) (fun i j hi hj e=>?_)
 ·rw[Ta rr hi];exact ru.nlt (rr.nlt (ru.back.nlt (rr.back.nlt hi)))
 ·rw[Ta rr hi,Ta rr hj]at e;have a:=rr.back.nlt hi;have b:=rr.back.nlt hj;exact rr.back.inj hi hj (ru.back.inj a b (rr.inj (ru.back.nlt a) (ru.back.nlt b) (ru.inj (rr.nlt (ru.back.nlt a)) (rr.nlt (ru.back.nlt b)) e)))
theorem Zc0 {n:Nat}{r u:List Nat}(rr:Row n r):(back r).map (fun x=>nx u (nx r (nx (back u) x)))=Zn r u:=by
 refine Y31 fun i=>?_
 by_cases hi:i<n
 ·have h1:=rr.back.get hi;have h2:(Zn r u)[i]?=some (nx (Zn r u) i):=by
   have:i<(Zn r u).length:=(by rw[Z51,rr.len];exact hi);rw[Y01 this];unfold nx;rw[Y0h,Y01 this];rfl
  rw[h2,Y0l,h1,Ta rr hi];rfl
 ·have e1:=rr.len;have e2:=rr.back.len;rw[Y29 (by rw[Y05];omega),Y29 (by rw[Z51];omega)]
def ZdM:Sp:=fun vs H Q _=>∃ (a:Addr) (n:Nat) (r u:List Nat),vs=[.ref a]/\ZN H a r u/\Row n r/\Row n u/\n<=36/\∀ (H':Hp) (l:Addr),Z7 H H'->H l=none->H' l=some (.lst (nv (Zn r u)))->Q (.ref l) H'
section
variable {P:Program}{w:World}{K:Y00}{mg:Str->Option Value}{base:Heap}
noncomputable abbrev nTr:List Str:=["sheet","left","down"]
theorem Zia:ZO nTr ["sheet"] (Z0 VU):=⟨rfl,rfl,rfl,by decide +kernel,rfl,by decide +kernel,by decide +kernel⟩
theorem ndTr:(["square","sheet","down"]:List Str).Nodup:=by decide +kernel
theorem ZeR {f fb:Addr}{fd fdb:FuncData}(F:Fn K mg "turn_row" VU ["sheet"] f fd)(FB:Fn K mg "back_row" W1 ["row"] fb fdb)(GB:Z6 P w K mg base CX0 1 fb fdb ["row"] UU) :
  Z6 P w K mg base CX0 5 f fd ["sheet"] ZdM:=by
 refine F.F.ok Zia (fun vs H Q E h=>?_) (fun cdv A outer s H vs Q E hr h=>?_)
 ·obtain⟨a,n,r,u,rfl,_⟩:=h;rfl
 ·obtain⟨a,n,r,u,rfl,⟨p,q,h1,h2,h3⟩,rr,ru,hn,k⟩:=h;have hr1:ZR 1 _:=hr.mono (by decide);refine⟨_,Z5 (ZP (i:=1) Zia.nd rfl (Or.inl rfl) (ZU GB hr1 rfl FB.m FB.F.kp FB.b .nil ZX (Z9 (ZY ZA (pv 0) Z3 (fun _ _=>rfl)) Z8)))
   (Z5 (ZP (i:=2) Zia.nd rfl (Or.inr rfl) (ZU GB hr1 rfl FB.m FB.F.kp FB.b .nil ZX (Z9 (ZY ZA (pv 0) Z3 (fun _ _=>rfl)) Z8)))
   (Z1 (ZS (Y6 (N:=nTr) (names:=(Z0 VU).names) (N':=["square","sheet","down"]) (k:=1) (pull:=[0,2]) (te:=tOp (Yp K) (tOp (Yp K) (ZW 1) (tC (.int 1))) (tOp (Yp K) (tOp (Yp K) (ZW 1) (tC (.int 0))) (tOp (Yp K) (ZW 2) (ZW 0)))) rfl
    ⟨by rfl,by decide +kernel,by decide +kernel,by rfl,by decide +kernel,by decide +kernel⟩ rfl rfl (XQ (pv 1)) (fun _ _ _ _ _ _=>ZE (i:=0) ndTr rfl (Or.inl rfl))
    (fun _ _ _ _ _ _=>ZY ZA (ZY ZA (pv 1) Z3 (fun _ _=>rfl)) (ZY ZA (ZY ZA (pv 1) Z3 (fun _ _=>rfl)) (ZY ZA (pv 2) (pv 0) (fun _ _=>rfl)) (fun _ _=>rfl)) (fun _ _=>rfl)))))),?_⟩
  refine⟨_,rfl,a,_,0,_,rfl,rfl,SqT.of h1,ZV (j:=0) rfl,p,n,r,rfl,h2,rr,hn,fun H1 l1 s1 hl1=>?_⟩;refine⟨_,rfl,a,_,1,_,rfl,rfl,SqT.of (s1 _ _ h1),ZV (j:=1) rfl,q,n,u,rfl,s1 _ _ h3,ru,hn,fun H2 l2 s2 hl2=>?_⟩;have s12:=s1.trans s2;refine ZdK (r:=back r) (rest:=[some (.ref a),some (.ref l2)]) (fun x=>nx u (nx r (nx (back u) x))) rfl (SqT.of (s2 _ _ hl1)) rfl (fun x H3 R hx s3 hR=>?_) (by rw[rr.back.len];omega) fun H3 d s3 hd hd3=>?_
  ·have hx:=rr.back.lt x hx;have s13:=s12.trans s3;refine⟨_,rfl,a,_,1,_,rfl,rfl,SqT.of (s13 _ _ h1),ZV (j:=1) rfl,?_⟩;refine⟨_,rfl,a,_,0,_,rfl,rfl,SqT.of (s13 _ _ h1),ZV (j:=0) rfl,?_⟩;refine⟨_,rfl,_,rfl,l2,_,_,_,rfl,rfl,SqT.of (s3 _ _ hl2),ZV (Zy (ru.back.get hx)),?_⟩;refine⟨p,_,_,_,rfl,rfl,SqT.of (s13 _ _ h2),ZV (Zy (rr.get (ru.back.nlt hx))),?_⟩;exact⟨q,_,_,_,rfl,rfl,SqT.of (s13 _ _ h3),ZV (Zy (ru.get (rr.nlt (ru.back.nlt hx)))),hR⟩
  ·rw[Zc0 rr]at hd3;exact k H3 d (s12.trans s3) (by
    cases e:H d with
    | none=>rfl
    | some o=>have:=s12 _ _ e;rw[this]at hd;cases hd) hd3
end
def Tu:Sp:=fun vs H Q _=>∃ (a:Addr) (n:Nat) (r u:List Nat),vs=[.ref a]/\ZN H a r u/\Row n r/\Row n u/\n<=36/\
 ∀ (H':Hp) (l:Addr) (as:List Addr),Z7 H H'->H l=none->H' l=some (.lst (rv as))->(∀ a∈as,H a=none)->Zb H' as (Zp n (Zn r u))->Q (.ref l) H'
section
variable {P:Program}{w:World}{K:Y00}{mg:Str->Option Value}{base:Heap}
theorem scCo:ZO ["sheet"] ["sheet"] (Z0 WD):=⟨rfl,rfl,rfl,by decide +kernel,rfl,by decide +kernel,by decide +kernel⟩
theorem Z9r {f fc ft:Addr}{fd fdc fdt:FuncData}(F:Fn K mg "corners" WD ["sheet"] f fd)(FT:Fn K mg "turn_row" VU ["sheet"] ft fdt)(GT:Z6 P w K mg base CX0 5 ft fdt ["sheet"] ZdM)
  (FC:Fn K mg "cycles" XF ["row"] fc fdc) (GC:Z6 P w K mg base CX0 2 fc fdc ["row"] (UK K)):Z6 P w K mg base CX0 6 f fd ["sheet"] Tu:=by
 refine F.F.ok scCo (fun vs H Q E h=>?_) (fun cdv A outer s H vs Q E hr h=>?_)
 ·obtain⟨a,n,r,u,rfl,_⟩:=h;rfl
 ·obtain⟨a,n,r,u,rfl,hsh,rr,ru,hn,k⟩:=h;have hr2:ZR 2 _:=hr.mono (by decide);refine⟨_,Z1 (ZS (ZU GC hr2 rfl FC.m FC.F.kp FC.b .nil ZX (Z9 (ZU GT hr rfl FT.m FT.F.kp FT.b .nil ZX (Z9 (pv 0) Z8)) Z8))),?_⟩;refine⟨_,rfl,a,n,r,u,rfl,hsh,rr,ru,hn,fun H1 l1 s1 _ hl1=>?_⟩;exact⟨l1,n,_,rfl,.inl (SqL.of hl1),WG rr ru,hn,fun H2 l as s2 f2 hl fr hL=>k H2 l as (s1.trans s2) (s1.free f2) hl (fun a ha=>s1.free (fr a ha)) hL⟩
end
def Zbh:Sp:=fun vs H Q _=>∃ (a:Addr) (n:Nat) (r u:List Nat),vs=[.ref a]/\ZN H a r u/\Row n r/\Row n u/\n<=36/\
 ∀ (H':Hp) (l:Addr) (S:List Nat),Z7 H H'->H l=none->H' l=some (.lst (nv S))->S.Perm ((Zp n (Zn r u)).map Y1k)->S.Pairwise (·<=·)->Q (.ref l) H'
theorem Zc6 {K:Y00}{H1:Hp}{l:Addr}{as:List Addr}{Ms:List (List Nat)}{Q:VK}(hl:H1 l=some (.lst (rv as)))(hL:Zb H1 as Ms)(hm:Ms.length<=1000)
  (k:∀ (H':Hp) (d:Addr),Z7 H1 H'->H1 d=none->H' d=some (.lst (nv (Ms.map Y1k)))->Q (.ref d) H') :
  (∃ xs,SqL K H1 l xs)/\∀ d,H1 d=none->∃ W:Nat->Nat->St->Hp->Prop,(∃ m,W 0 m [none] (upd H1 d (.lst [])))/\∀ i m σ' H',W i m σ' H'->
   ((Itl K l).stop i H'/\Q (.ref d) H')\/((Itl K l).go i H'/\∀ x H2,(Itl K l).yld i H' x H2->ZC 0 x σ' H2 fun σ3 H3=>tCB (fun xs H Q=>∃ p ys,xs=[.ref p]/\(SqL K H p ys\/SqT K H p ys)/\Q (.int (ys.length:Int)) H) (ZM (ZW 0) Zx) σ3 H3 fun y H4=>
    ∃ xs,H4 d=some (.lst xs)/\xs.length<sizeLine/\∃ m',m'<m/\W (i+1) m' σ3 (upd H4 d (.lst (xs++[y])))):=by
 refine⟨⟨_,SqL.of hl⟩,fun d hd=>?_⟩;have hlen:=hL.len;refine YR (Q:=fun d H'=>Q (.ref d) H') Ms.length (nv (Ms.map Y1k)) (by rw[ZQ,Y05]) (fun i σ H3=>∃ o,σ=[o]/\Z7 H1 H3) ⟨none,rfl,Z4 (Z7.refl _) hd⟩ ?_ ?_
 ·rintro i σ H3 hi ⟨o,rfl,s3⟩ hd3;have hi':i<as.length:=by omega
  have ha:as[i]?=some as[i]:=Y01 hi';obtain⟨M,hM,hA⟩:=hL.get ha;have hl3:=SqL.of (K:=K) (s3 _ _ hl);refine⟨⟨_,_,hl3,Wu ha⟩,fun y H4 ⟨e,hy⟩=>?_⟩;subst e;have hy:=hy _ hl3;rw[Wu ha]at hy;cases hy;refine⟨_,rfl,as[i],_,rfl,.inl (SqL.of (s3 _ _ hA)),?_⟩;refine YN hi hm hd3 ?_ ⟨_,rfl,Z4 s3 hd⟩;rw[ZQ];exact Zy (by rw[Y0l,hM];rfl)
 ·rintro σ H3 ⟨o,rfl,s3⟩ hd3;exact⟨⟨_,SqL.of (s3 _ _ hl),by rw[XY,hlen];exact Y04 _⟩,k H3 d s3 hd hd3⟩
section
variable {P:Program}{w:World}{K:Y00}{mg:Str->Option Value}{base:Heap}
theorem scTu:ZO ["sheet"] ["sheet"] (Z0 VB):=⟨rfl,rfl,rfl,by decide +kernel,rfl,by decide +kernel,by decide +kernel⟩
theorem ndTu:(["corner"]:List Str).Nodup:=by decide +kernel
theorem ZcA {f fc:Addr}{fd fdc:FuncData}(T:Bi mg)(F:Fn K mg "turns" VB ["sheet"] f fd)(FC:Fn K mg "corners" WD ["sheet"] fc fdc)(GC:Z6 P w K mg base CX0 6 fc fdc ["sheet"] Tu) :
  Z6 P w K mg base CX0 7 f fd ["sheet"] Zbh:=by
 refine F.F.ok scTu (fun vs H Q E h=>?_) (fun cdv A outer s H vs Q E hr h=>?_)
 ·obtain⟨a,n,r,u,rfl,_⟩:=h;rfl
 ·obtain⟨a,n,r,u,rfl,hsh,rr,ru,hn,k⟩:=h;refine⟨_,Z1 (ZS (ZF (U2 rfl) rfl T.sorted V7 (Z9
    (Y6 (N:=["sheet"]) (names:=(Z0 VB).names) (N':=["corner"]) (k:=1) (pull:=[]) (te:=tCB (fun xs H Q=>∃ p ys,xs=[.ref p]/\(SqL K H p ys\/SqT K H p ys)/\Q (.int (ys.length:Int)) H) (ZM (ZW 0) Zx)) rfl
     ⟨by rfl,by decide +kernel,by decide +kernel,by rfl,by decide +kernel,by decide +kernel⟩ rfl rfl (Y5 (ZU GC hr rfl FC.m FC.F.kp FC.b .nil ZX (Z9 (pv 0) Z8))) (fun _ _ _ _ _ _=>ZE (i:=0) ndTu rfl (Or.inl rfl))
     (fun _ _ _ _ _ _=>ZF Zk rfl T.len PySem.boot_len (Z9 (pv 0) Z8))) Z8))),?_⟩
  refine⟨_,rfl,a,n,r,u,rfl,hsh,rr,ru,hn,fun H1 l as s1 _ hl _ hL=>?_⟩;have hRl:=V6 n (Zn r u);refine⟨l,rfl,Zc6 (Q:=fun v H'=>Zx _ H' fun vs H2=>Zbf K (v::vs) H2 Q) hl hL (by omega) fun H2 d s2 _ hd=>?_⟩;refine⟨d,_,rfl,.inl (SqL.of hd),by rw[Y05];omega,fun l2 S hl2 pS sS=>?_⟩;exact k _ l2 S (Z4 (s1.trans s2) ((s1.trans s2).free hl2)) ((s1.trans s2).free hl2) Z2 pS sS
end
end K1
namespace Sq
end Sq
namespace Sq
section
variable {n:Nat}{w:List Nat}
end
end Sq
namespace K1
open PySem L2 Sq
noncomputable def pts (n:Nat)(r u:List Nat):Nat:=(Zp n (Zn r u)).length
def Z8K:Sp:=fun vs H Q _=>∃ (a:Addr) (n:Nat) (r u:List Nat),vs=[.ref a]/\ZN H a r u/\Row n r/\Row n u/\n<=36/\
 ∀ (H':Hp) (t:Addr),Z7 H H'->H' t=some (.tup [.int (pts n r u:Int),.int (2*(n:Int)),.int (n:Int),.int ((2-(pts n r u:Int)+2*(n:Int)-(n:Int))/2)])->Q (.ref t) H'
section
variable {P:Program}{w:World}{K:Y00}{mg:Str->Option Value}{base:Heap}
noncomputable abbrev nCt:List Str:=["sheet","squares","sides","points"]
theorem Sg:ZO nCt ["sheet"] (Z0 UB):=⟨rfl,rfl,rfl,by decide +kernel,rfl,by decide +kernel,by decide +kernel⟩
theorem Zcj {f fz fc:Addr}{fd fdz fdc:FuncData}(T:Bi mg)(F:Fn K mg "counts" UB ["sheet"] f fd)(FZ:Fn K mg "size" Vj ["sheet"] fz fdz)(GZ:Z6 P w K mg base CX0 1 fz fdz ["sheet"] ZaZ)
  (FC:Fn K mg "corners" WD ["sheet"] fc fdc) (GC:Z6 P w K mg base CX0 6 fc fdc ["sheet"] Tu):Z6 P w K mg base CX0 7 f fd ["sheet"] Z8K:=by
 refine F.F.ok Sg (fun vs H Q E h=>?_) (fun cdv A outer s H vs Q E hr h=>?_)
 ·obtain⟨a,n,r,u,rfl,_⟩:=h;rfl
 ·obtain⟨a,n,r,u,rfl,hsh,rr,ru,hn,k⟩:=h;have hr1:ZR 1 _:=hr.mono (by decide);refine⟨_,Z5 (ZP (i:=1) Sg.nd rfl (Or.inl rfl) (ZU GZ hr1 rfl FZ.m FZ.F.kp FZ.b .nil ZX (Z9 (pv 0) Z8)))
   (Z5 (ZP (i:=2) Sg.nd rfl (Or.inl rfl) (ZJ Zb6 Z3 (pv 1)))
   (Z5 (ZP (i:=3) Sg.nd rfl (Or.inl rfl) (ZF Zk rfl T.len PySem.boot_len (Z9 (ZU GC hr rfl FC.m FC.F.kp FC.b .nil ZX (Z9 (pv 0) Z8)) Z8)))
   (Z1 (ZS (Y2 (Z9 (pv 3) (Z9 (pv 2) (Z9 (pv 1) (Z9 (ZJ XZ (ZJ Wt (ZJ Xf (ZJ Wt Z3 (pv 3)) (pv 2)) (pv 1)) Z3) Z8))))))))),?_⟩
  refine⟨_,rfl,a,r,u,rfl,hsh,?_⟩;show (fun σ=>_) _;dsimp only;rw[rr.len];refine⟨_,rfl,_,_,rfl,rfl,.inl ⟨by decide,by decide⟩,?_⟩;refine⟨_,rfl,a,n,r,u,rfl,hsh,rr,ru,hn,fun H1 l as s1 _ hl _ hL=>?_⟩;refine⟨l,_,rfl,.inl (SqL.of hl),?_⟩;dsimp only;rw[XY,hL.len];refine⟨_,rfl,_,rfl,_,rfl,_,rfl,_,_,rfl,rfl,_,rfl,_,_,rfl,rfl,_,rfl,_,_,rfl,rfl,_,_,rfl,rfl,⟨by decide,by decide⟩,by show 4<=sizeLine;decide,fun t ht=>?_⟩;exact k _ t (Z4 s1 (s1.free ht)) Z2
end
end K1
namespace L2
open PySem PySem.Spec PyProof.Rows
section
variable {X:Cx}{tg:Expr}
end
section
variable {X:Cx}
theorem Z8E:bootBuiltins "any"=some (.builtin "any"):=by decide +kernel
theorem Z3a (hc:X.calm=true):YM X (.builtin "any") (fun xs H Q=>∃ (p:Addr) (bs:List Bool),xs=[.ref p]/\SqL X.K H p (bs.map V.bl)/\Q (.bl (bs.any id)) H):=by
 intro pins s σ H xs us Q I r h;obtain⟨p,bs,rfl,hq,q⟩:=h;obtain⟨u,rfl,ru⟩:=YE r;obtain rfl:u=Value.ref p:=ru;obtain⟨its,rv,pl,hz⟩:=I.list hq;have hL:=pl.isList;have hlt:p<s.heap.objs.size:=by obtain⟨o,ho,_⟩:=id hL;exact Y0a ho
 have hlen:its.length=bs.length:=by rw[<-rv.length];simp
 refine call_any_walkS (wpAny_pyIter_list hL ⟨s.heap.objs.size,_,_,_,its.toArray.size,_,_,fun i=>bs.getD i false,rfl,(Walks.list (A:=X.A.in1) (I.ok.hd hc) s.heap.objs.size p (Y0j hlt) its.toArray).toS,⟨⟨_,Y06 _ rfl,rfl,rfl⟩,hL.push _⟩,?_,fun s' hm=>?_⟩)
 ·intro i v s2 Q2 E2 hP hQ;have hv:its[i]?=some v:=by simpa using hP
  have hi:i<bs.length:=by rw[<-hlen];exact (Y07.mp hv).1
  have hb:(bs.map V.bl)[i]?=some (.bl bs[i]):=by simp[hi]
  obtain⟨u,hu,ru⟩:=rv.get hb;rw[hv]at hu;cases hu;obtain rfl:v=Value.bool bs[i]:=ru;have e:bs.getD i false=bs[i]:=by simp[Y0h,hi]
  simp only[e]at hQ;exact wpAny_truthy_bool hQ
 ·rw[Moved.eq_with hm];refine⟨.bl _,H,I.kept (h':=s'.heap) (t':=s'.toks) fun b o e=>hm.heap b o (fun z=>?_) (Y02 _ e),rfl,?_⟩
  ·exact absurd (Y0a e) (by rw[Y0c.mp z];exact Y1o _)
  ·have e:(Y03 its.toArray.size).any (fun i=>bs.getD i false)=bs.any id:=by
    have:its.toArray.size=bs.length:=by simpa using hlen
    rw[this];apply Y2j.mpr;simp only[Y2q,Y08,id];constructor
    ·rintro ⟨i,hi,h⟩;refine⟨bs[i],Y15 hi,?_⟩
     simpa [Y0h,hi] using h
    ·rintro ⟨b,hb,h⟩;obtain⟨i,hi,rfl⟩:=Y1g.mp hb;exact⟨i,hi,by simpa [Y0h,hi] using h⟩
   rw[e];exact q
end
end L2
namespace Sq
theorem Zjc {n:Nat}{u S:List Nat}(ru:Row n u)(lt:∀ x∈S,x<n)(e:Nat->Bool)(h:S.any e=true):∃ w,1<=w/\w<=n/\(S.map fun x=>it u x w).any e=true:=by
 obtain⟨x,hx,ex⟩:=Y2q.mp h;have hxn:=lt x hx;have hp:=Vv ru hxn;refine⟨per n u x,?_,?_,?_⟩
 ·unfold per;omega
 ·have:=(YT ru hxn).len ru hxn
  rwa [Wx]at this
 ·rw[Y2q];exact⟨_,Y0d.mpr ⟨x,hx,rfl⟩,by rw[hp.1];exact ex⟩
end Sq
namespace Sq
noncomputable def Yj (E S:List Nat):Bool:=S.any fun x=>decide (x∈E)
noncomputable def ups (u S:List Nat)(w:Nat):List Nat:=S.map fun x=>it u x w
noncomputable def VE (E S W:List Nat)(t:Nat):Bool:=(Y03 S.length).any fun k=>decide (nx S k∈E)&&decide (nx W ((k+t)%S.length)∈E)
noncomputable def wid (n:Nat)(u E S:List Nat):Nat:=((Y03 n).find? fun k=>Yj E (ups u S (k+1))).getD 0+1
noncomputable def SK (E S W:List Nat):List Nat:=(Y03 S.length).filter (VE E S W)
noncomputable def ZdN (n:Nat)(u E S:List Nat):Nat×Nat×List Nat:=(S.length,wid n u E S,SK E S (ups u S (wid n u E S)))
noncomputable def X0 (n:Nat)(r u E:List Nat):List (Nat×Nat×List Nat):=((Zp n r).filter (Yj E)).map (ZdN n u E)
theorem ZcR (u S:List Nat):ups u S 0=S:=by
 show S.map (fun x=>x)=S;simp
theorem Z8w (u S:List Nat)(w:Nat):ups u S (w+1)=(ups u S w).map (nx u):=by
 show S.map (fun x=>nx u (it u x w))=(S.map fun x=>it u x w).map (nx u);rw[Y2b];rfl
theorem ZfE (u S:List Nat):ups u S 1=S.map (nx u):=by rw[Z8w,ZcR]
theorem Z7R (u S:List Nat)(w:Nat):(ups u S w).length=S.length:=by simp[ups]
theorem ZgR {n:Nat}{u S:List Nat}(ru:Row n u)(lt:∀ x∈S,x<n)(w:Nat):∀ y∈ups u S w,y<n:=fun y hy=>by
 obtain⟨x,hx,rfl⟩:=Y0d.mp hy;exact Y4 ru (lt x hx) w
theorem ZfP {n:Nat}{u S E:List Nat}(ru:Row n u)(lt:∀ x∈S,x<n)(h:Yj E S=true) :
  Yj E (ups u S (wid n u E S))=true/\(∀ i,1<=i->i<wid n u E S->Yj E (ups u S i)=false)/\1<=wid n u E S/\wid n u E S<=n:=by
 obtain⟨w,h1,h2,h3⟩:=Zjc ru lt (fun x=>decide (x∈E)) h;have hs:((Y03 n).find? fun k=>Yj E (ups u S (k+1))).isSome=true:=by
  rw[List.find?_isSome];exact⟨w-1,Y08.mpr (by lia),by rw[show w-1+1=w from by lia];exact h3⟩
 obtain⟨k,hk⟩:=Option.isSome_iff_exists.mp hs;have e:wid n u E S=k+1:=by unfold wid;rw[hk];rfl
 have hp:=List.find?_some hk;have hm:=Y08.mp (Y44 hk);refine⟨by rw[e];exact hp,fun i hi hlt=>?_,by lia,by lia⟩;rw[e]at hlt;rw[List.find?_range_eq_some]at hk;have:=hk.2.2 (i-1) (by lia);rw[show i-1+1=i from by lia]at this;cases c:Yj E (ups u S i) with
 | false=>rfl
 | true=>rw[c]at this;simp at this
end Sq
namespace K1
open PySem L2 Sq
theorem Zdp {K:Y00}{Hc:Hp}{p:Addr}{r:List Nat}{tl te:TE}{pull:List Nat}{Q:VK}{σ:St}{rest:St}(g:Nat->Bool)(hj:∀ R:VK,R (.ref p) Hc->tl σ Hc R)(hp:Hc p=some (.lst (nv r)))(hb:bst 1 pull σ=none::rest)
  (hte:∀ (x:Nat) (H:Hp) (R:VK),x∈r->Z7 Hc H->R (.bl (g x)) H->te (some (.int (x:Int))::rest) H R) (hm:r.length<=1000)
  (k:∀ (H':Hp) (d:Addr),Z7 Hc H'->Hc d=none->H' d=some (.lst ((r.map g).map V.bl))->Q (.ref d) H') :
  YO (Yr K tl) 1 pull (ZC 0) te σ Hc Q:=by
 refine hj _ ⟨p,rfl,⟨_,SqL.of hp⟩,fun d hd=>?_⟩;rw[hb];refine YR (J:=Itl K p) (Q:=fun d H'=>Q (.ref d) H') r.length ((r.map g).map V.bl) (by simp) (fun i σ H9=>(∃ o,σ=o::rest)/\Z7 Hc H9) ⟨⟨_,rfl⟩,Z4 (Z7.refl _) hd⟩ ?_ ?_
 ·rintro i σ H9 hi ⟨⟨o,rfl⟩,s9⟩ hd9;have hq:=SqL.of (K:=K) (s9 _ _ hp);have hmi:=Zy (Y01 hi);refine⟨⟨_,_,hq,hmi⟩,fun y H4 ⟨e1,hy⟩=>?_⟩;subst e1;have hy:=hy _ hq;rw[hmi]at hy;cases hy;refine hte _ _ _ (Y15 hi) s9 ?_;exact YN hi hm hd9 (by simp[hi]) ⟨⟨_,rfl⟩,Z4 s9 hd⟩
 ·rintro σ H9 ⟨⟨o,rfl⟩,s9⟩ hd9;exact⟨⟨_,SqL.of (s9 _ _ hp),by rw[ZQ];exact Y04 _⟩,k H9 d s9 hd hd9⟩
def Si:Sp:=fun vs H Q _=>∃ (p q:Addr) (E S:List Nat),vs=[.ref p,.ref q]/\H p=some (.lst (nv E))/\H q=some (.lst (nv S))/\S.length<=1000/\∀ H':Hp,Z7 H H'->Q (.bl (Yj E S)) H'
section
variable {P:Program}{w:World}{K:Y00}{mg:Str->Option Value}{base:Heap}
noncomputable abbrev n_ha:List Str:=["edge","squares"]
theorem Zig:ZO n_ha ["edge","squares"] (Z0 WC):=⟨rfl,rfl,rfl,by decide +kernel,rfl,by decide +kernel,by decide +kernel⟩
theorem Zjl:(["square","edge"]:List Str).Nodup:=by decide +kernel
theorem ZjG {f:Addr}{fd:FuncData}(T:Bi mg)(w2P:mg "any"=none)(F:Fn K mg "has_some" WC ["edge","squares"] f fd):Z6 P w K mg base CX0 1 f fd ["edge","squares"] Si:=by
 refine F.F.ok Zig (fun vs H Q E h=>?_) (fun cdv A outer s H vs Q E hr h=>?_)
 ·obtain⟨p,q,E0,S,rfl,_⟩:=h;rfl
 ·obtain⟨p,q,E0,S,rfl,hp,hq,l1,k⟩:=h;refine⟨_,(Z1 (ZS (ZF (Z3a rfl) rfl w2P Z8E (Z9 (Y6 (N:=n_ha) (names:=(Z0 WC).names) (N':=["square","edge"]) (k:=1) (pull:=[0]) (te:=(tOp (rIn K false) (ZW 0) (ZW 1))) rfl ⟨by rfl,by decide +kernel,by decide +kernel,by rfl,by decide +kernel,by decide +kernel⟩ rfl rfl (Y5 (pv 1)) (fun _ _ _ _ _ _=>ZE (i:=0) Zjl rfl (Or.inl rfl)) (fun _ _ _ _ _ _=>(Ym UW (pv 0) (pv 1) (by with_unfolding_all rfl)))) Z8)))),?_⟩;dsimp only [Xs,tCB,ZM];refine Zdp (p:=q) (r:=S) (rest:=[some (.ref p)]) (fun x=>decide (x∈E0)) (fun R hR=>⟨_,rfl,hR⟩) hq rfl (fun x H2 R hx s2 hR=>?_) l1 fun H1 e s1 he0 he=>?_
  ·refine⟨_,rfl,_,rfl,p,_,rfl,.inl (SqL.of (s2 _ _ hp)),rfl,VL _,?_⟩;rw[if_neg (by decide),Vx];exact hR
  ·refine⟨e,_,rfl,SqL.of he,?_⟩;have e2:(S.map fun x=>decide (x∈E0)).any id=Yj E0 S:=(by unfold Yj;rw[List.any_map];rfl);rw[e2];exact k _ s1
end
theorem ZaE {X:List Nat}{i:Nat}(h:i<X.length):X[i]?=some (nx X i):=by
 show X[i]?=some (X.getD i 0);rw[Y0h,Y01 h];rfl
theorem Z9L {Hc:Hp}{m:Nat}{ta:TA}{te:TE}{pull:List Nat}{Q:VK}{σ:St}{rest:St}(g:Nat->Bool)(hj:∀ R:List V->Hp->Prop,R [.int (m:Int)] Hc->ta σ Hc R)(hb:bst 1 pull σ=none::rest)
  (hte:∀ (i:Nat) (H:Hp) (R:VK),i<m->Z7 Hc H->R (.bl (g i)) H->te (some (.int (i:Int))::rest) H R) (hm:m<=1000)
  (k:∀ (H':Hp) (d:Addr),Z7 Hc H'->Hc d=none->H' d=some (.lst (((Y03 m).map g).map V.bl))->Q (.ref d) H') :
  YO (SB ta) 1 pull (ZC 0) te σ Hc Q:=by
 refine hj _ ⟨(m:Int),rfl,by omega,by omega,fun d hd=>?_⟩;rw[Y0q,hb];refine YR (J:=Itr 0 m) (Q:=fun d H'=>Q (.ref d) H') m (((Y03 m).map g).map V.bl) (by simp) (fun i σ H9=>(∃ o,σ=o::rest)/\Z7 Hc H9) ⟨⟨_,rfl⟩,Z4 (Z7.refl _) hd⟩ ?_ ?_
 ·rintro i σ H9 hi ⟨⟨o,rfl⟩,s9⟩ hd9;refine⟨hi,fun x H4 ⟨e1,e2⟩=>?_⟩;subst e1 e2;rw[show (0:Int)+(i:Int)=(i:Int) from by omega];refine hte i _ _ hi s9 ?_;exact YN hi (by omega) hd9 (by simp[hi]) ⟨⟨_,rfl⟩,Z4 s9 hd⟩
 ·rintro σ H9 ⟨⟨o,rfl⟩,s9⟩ hd9;exact⟨Y04 _,k H9 d s9 hd hd9⟩
def ZiK:Sp:=fun vs H Q _=>∃ (p q q':Addr) (E S W:List Nat) (t:Nat),vs=[.ref p,.ref q,.ref q',.int (t:Int)]/\H p=some (.lst (nv E))/\H q=some (.lst (nv S))/\H q'=some (.lst (nv W))/\W.length=S.length/\S.length<=36/\1<=S.length/\∀ H':Hp,Z7 H H'->Q (.bl (VE E S W t)) H'
section
variable {P:Program}{w:World}{K:Y00}{mg:Str->Option Value}{base:Heap}
noncomputable abbrev n_hs:List Str:=["edge","lowest","above","t","length"]
theorem ZfR:ZO n_hs ["edge","lowest","above","t"] (Z0 V3):=⟨rfl,rfl,rfl,by decide +kernel,rfl,by decide +kernel,by decide +kernel⟩
theorem Zjz:(["k","edge","lowest","above","t","length"]:List Str).Nodup:=by decide +kernel
theorem ZiJ {f:Addr}{fd:FuncData}(T:Bi mg)(w2P:mg "any"=none)(F:Fn K mg "has_shift" V3 ["edge","lowest","above","t"] f fd):Z6 P w K mg base CX0 1 f fd ["edge","lowest","above","t"] ZiK:=by
 refine F.F.ok ZfR (fun vs H Q E h=>?_) (fun cdv A outer s H vs Q E hr h=>?_)
 ·obtain⟨p,q,q',E0,S,W,t,rfl,_⟩:=h;rfl
 ·obtain⟨p,q,q',E0,S,W,t,rfl,hp,hq,hq',l2',l36,l0,k⟩:=h;refine⟨_,(Z5 (ZP (i:=4) ZfR.nd rfl (Or.inr rfl) (ZF Zk rfl T.len PySem.boot_len (Z9 (pv 1) Z8)))
   (Z1 (ZS (ZF (Z3a rfl) rfl w2P Z8E (Z9 (Y6 (N:=n_hs) (names:=(Z0 V3).names) (N':=["k","edge","lowest","above","t","length"]) (k:=1) (pull:=[0,1,2,3,4]) (te:=(Zh9 (tOp (rIn K false) (tOp (WQ K) (ZW 2) (ZW 0)) (ZW 1)) (tOp (rIn K false) (tOp (WQ K) (ZW 3) (tOp (rI (fun _ j=>0<j) fun i j=>.int (i%j)) (tOp (rI0 fun i j=>.int (i+j)) (ZW 0) (ZW 4)) (ZW 5))) (ZW 1)))) rfl ⟨by rfl,by decide +kernel,by decide +kernel,by rfl,by decide +kernel,by decide +kernel⟩ rfl rfl (X9 rfl T.range (Z9 (pv 4) Z8)) (fun _ _ _ _ _ _=>ZE (i:=0) Zjz rfl (Or.inl rfl)) (fun _ _ _ _ _ _=>(XN (Ym UW (ZY Zs (pv 2) (pv 0) (fun _ _=>rfl)) (pv 1) (by with_unfolding_all rfl)) (WY (Ym UW (ZY Zs (pv 3) (ZJ YF (ZJ Xf (pv 0) (pv 4)) (pv 5)) (fun _ _=>rfl)) (pv 1) (by with_unfolding_all rfl)))))) Z8))))),?_⟩
  refine⟨_,rfl,q,_,rfl,.inl (SqL.of hq),?_⟩;rw[ZQ];dsimp only [ZC,Xs,tCB,ZM];refine Z9L (m:=S.length) (rest:=[some (.ref p),some (.ref q),some (.ref q'),some (.int (t:Int)),some (.int (S.length:Int))]) (fun k=>decide (nx S k∈E0)&&decide (nx W ((k+t)%S.length)∈E0)) (fun R hR=>⟨_,rfl,hR⟩) rfl (fun i H2 R hi s2 hR=>?_) (by omega) fun H1 e s1 he0 he=>?_
  ·refine⟨_,rfl,_,rfl,q,_,_,_,rfl,rfl,SqL.of (s2 _ _ hq),ZV (Zy (ZaE hi)),_,rfl,p,_,rfl,.inl (SqL.of (s2 _ _ hp)),rfl,VL _,decide (nx S i∈E0),?_,?_⟩
   ·rw[if_neg (by decide),Vx]
   ·by_cases c:nx S i∈E0
    ·rw[decide_eq_true c]at hR ⊢;rw[if_pos rfl];have hj:(i+t)%S.length<W.length:=(by rw[l2'];exact Nat.mod_lt _ (by omega));have em:((i:Int)+(t:Int))%(S.length:Int)=(((i+t)%S.length:Nat):Int):=(by simp);refine⟨_,rfl,_,rfl,_,rfl,_,_,rfl,rfl,_,rfl,_,_,rfl,rfl,by omega,q',_,_,.int ((nx W ((i+t)%S.length):Nat):Int),rfl,rfl,SqL.of (s2 _ _ hq'),?_,_,rfl,p,_,rfl,.inl (SqL.of (s2 _ _ hp)),rfl,VL _,?_⟩
     ·rw[em];exact ZV (Zy (ZaE hj))
     ·rw[if_neg (by decide),Vx];simpa using hR
    ·rw[decide_eq_false c]at hR ⊢;rw[if_neg (by decide)]
     simpa using hR
  ·refine⟨e,_,rfl,SqL.of he,?_⟩;have e2:((Y03 S.length).map fun k=>decide (nx S k∈E0)&&decide (nx W ((k+t)%S.length)∈E0)).any id=VE E0 S W t:=(by unfold VE;rw[List.any_map];rfl);rw[e2];exact k _ s1
end
theorem Z8s {K:Y00}{Hc:Hp}{p:Addr}{r:List Nat}{j:Nat}{te:TE}{pull:List Nat}{Q:VK}{σ:St}{rest:St}(g:Nat->Nat)(hj:σ[j]?=some (some (.ref p)))(hp:Hc p=some (.lst (nv r)))(hb:bst 1 pull σ=none::rest)
  (hte:∀ (x:Nat) (H:Hp) (R:VK),x∈r->Z7 Hc H->R (.int (g x:Int)) H->te (some (.int (x:Int))::rest) H R) (hn:r.length<=1000)
  (k:∀ (H':Hp) (d:Addr),Z7 Hc H'->Hc d=none->H' d=some (.lst (nv (r.map g)))->Q (.ref d) H') :
  YO (Yr K (ZW j)) 1 pull (ZC 0) te σ Hc Q:=by
 refine⟨_,hj,p,rfl,⟨_,SqL.of hp⟩,fun d hd=>?_⟩;rw[hb];refine YR (Q:=fun d H'=>Q (.ref d) H') r.length (nv (r.map g)) (by rw[ZQ];simp) (fun i σ H3=>(∃ o,σ=o::rest)/\Z7 Hc H3) ⟨⟨_,rfl⟩,Z4 (Z7.refl _) hd⟩ ?_ ?_
 ·rintro i σ H3 hi ⟨⟨o,rfl⟩,s3⟩ hd3;have hp3:=SqL.of (K:=K) (s3 _ _ hp);have hg:=Zy (Y01 hi);refine⟨⟨_,_,hp3,hg⟩,fun y H4 ⟨e,hy⟩=>?_⟩;subst e;have hy:=hy _ hp3;rw[hg]at hy;cases hy;refine hte _ _ _ (Y15 hi) s3 ?_;exact YN hi hn hd3 (Zy (by simp[hi])) ⟨⟨_,rfl⟩,Z4 s3 hd⟩
 ·rintro σ H3 ⟨⟨o,rfl⟩,s3⟩ hd3;exact⟨⟨_,SqL.of (s3 _ _ hp),by rw[ZQ];exact Y04 _⟩,k H3 d s3 hd hd3⟩
section
end
def spAb:Sp:=fun vs H Q _=>∃ (a q:Addr) (n:Nat) (r u S:List Nat),vs=[.ref a,.ref q]/\ZN H a r u/\H q=some (.lst (nv S))/\Row n u/\(∀ x∈S,x<n)/\S.length<=1000/\∀ (H':Hp) (l:Addr),Z7 H H'->H l=none->H' l=some (.lst (nv (S.map (nx u))))->Q (.ref l) H'
section
variable {P:Program}{w:World}{K:Y00}{mg:Str->Option Value}{base:Heap}
noncomputable abbrev n_ab:List Str:=["sheet","squares"]
theorem Zjn:ZO n_ab ["sheet","squares"] (Z0 V4):=⟨rfl,rfl,rfl,by decide +kernel,rfl,by decide +kernel,by decide +kernel⟩
theorem Zhp:(["square","sheet"]:List Str).Nodup:=by decide +kernel
theorem Zis {f:Addr}{fd:FuncData}(T:Bi mg)(F:Fn K mg "above_all" V4 ["sheet","squares"] f fd):Z6 P w K mg base CX0 1 f fd ["sheet","squares"] spAb:=by
 refine F.F.ok Zjn (fun vs H Q E h=>?_) (fun cdv A outer s H vs Q E hr h=>?_)
 ·obtain⟨a,q,n,r,u,S,rfl,_⟩:=h;rfl
 ·obtain⟨a,q,n,r,u,S,rfl,ha,hq,ru,hS,l1,k⟩:=h;refine⟨_,(Z1 (ZS (Y6 (N:=n_ab) (names:=(Z0 V4).names) (N':=["square","sheet"]) (k:=1) (pull:=[0]) (te:=(tOp (Yp K) (tOp (Yp K) (ZW 1) (tC (.int 1))) (ZW 0))) rfl ⟨by rfl,by decide +kernel,by decide +kernel,by rfl,by decide +kernel,by decide +kernel⟩ rfl rfl (Y5 (pv 1)) (fun _ _ _ _ _ _=>ZE (i:=0) Zhp rfl (Or.inl rfl)) (fun _ _ _ _ _ _=>(ZY ZA (ZY ZA (pv 1) Z3 (fun _ _=>rfl)) (pv 0) (fun _ _=>rfl)))))),?_⟩;obtain⟨p1,q1,h1,h2,h3⟩:=id ha;dsimp only [Xs];refine Z8s (j:=1) (p:=q) (r:=S) (rest:=[some (.ref a)]) (fun x=>nx u x) rfl hq rfl (fun x H2 R hx s2 hR=>?_) l1 fun H1 e s1 he0 he=>?_
  ·exact⟨_,rfl,a,_,1,_,rfl,rfl,SqT.of (s2 _ _ h1),ZV (j:=1) rfl,_,rfl,q1,_,_,_,rfl,rfl,SqT.of (s2 _ _ h3),ZV (Zy (ru.get (hS x hx))),hR⟩
  ·exact k _ e s1 he0 he
end
end K1
namespace L2
open PySem PySem.Spec PyProof.Rows
section
variable {X:Cx}{elt tg iter:Expr}{sc:Scope}{pos py spos:Pos}{cnd:Expr}{tt:TT}{wi:TI}{g:TG}{te:TE}{N:List Str}{names:List (Str×NameKind)}{N':List Str}{k j:Nat}{pull:List Nat}{y:Str}
theorem Z6X (hc:X.calm=true)(hNd:X.N.Nodup)(hj:X.N[j]?=some y)(hy:X.env.scope.names.lookup y=some .local)(B:Uj N names N' k pull sc)(hN:X.N=N)(hnm:X.env.scope.names=names)(hi:PI X tg iter wi)
  (hg:∀ cl C s₂ H₁ fp pins,PG (blk X sc cl C N' s₂ H₁ fp pins) tg g) (hcn:∀ cl C s₂ H₁ fp pins,PT (blk X sc cl C N' s₂ H₁ fp pins) cnd tt) (he:∀ cl C s₂ H₁ fp pins,PE (blk X sc cl C N' s₂ H₁ fp pins) elt te)
  (hs:∀ x,foldedSetIterable iter X.env x=pure x:=by intro _;rfl) (hsw:swapsWith (.ListComp elt [⟨tg,iter,[cnd],0⟩] sc pos) (some (.Name y py)) spos.line X.env=pure true:=by rfl):PS X (.Assign [.Name y py] (.ListComp elt [⟨tg,iter,[cnd],0⟩] sc pos) spos) (Xv (Wy wi k pull g tt te) (ZC j)):=by
 intro pins s σ H D I h;rw[exec_Assign_Name_used _ _ _ _ hsw];refine wpAny_bind (wpAny_standAt (wpAny_bind ?_));show wpAny _ X.A (do let _ <-comprehension (.ListComp elt [⟨tg,iter,[cnd],0⟩] sc pos) sc X.env _ (newList []) false (eval iter X.env) (some (assign (.Name y py) X.env))) _ _ s;have hcells:∀ y∈sc.names,y.2=.free->∃ c,X.env.cells.lookup y.1=some c:=fun y hy hf=>I.ok.has y.1 (.inl (by
  show X.env.scope.names.lookup y.1=_
  rw[hnm];exact B.fre y hy hf))
 obtain⟨cl,ecl,c1,_,c3⟩:=V9 (env:=X.env) sc.names [] hcells (fun x c e=>nomatch e);rw[<-Tz]at ecl;refine wpAny_bind (wpAny_mono (wpAny_comprehension_free (Q:=fun _ s'=>SP X pins D .next s') (use:=some (assign (.Name y py) X.env)) rfl hs ecl B.kind B.loc (thn (hi pins s σ H _ I h) fun xv s1 h1=>thn h1 fun itv s2 h2=>?_)) (fun _ s' hq=>wpAny_pure (wpAny_pure hq)) fun _ _ e=>e);obtain⟨it,fp,tn,J,H1,e,I2,T,st2,f2,hW⟩:=h2;subst e;have ho:∀ b∈fp,∃ o,s2.heap.get? b=some o:=fun b hb=>let ⟨o,e,_⟩:=T.obj _ _ st2 b hb;⟨o,e⟩
 refine wpAny_newObj_type (wpAny_newFunctionEnv B.nocell (by intro y hy;simp at hy) (fun h₁ hns₁ hsb₁=>?_) B.kind);dsimp only at hns₁ hsb₁ ⊢;rw[Y19]at hns₁ hsb₁ ⊢;have old:∀ b o,s2.heap.get? b=some o->h₁.get? b=some o:=fun b o e=>by
  have hlt:=Y0a e;exact (hsb₁.2 b (Y0j (Y1b hlt))).trans (Y02 _ (Y02 _ e))
 have hd:h₁.get? s2.heap.objs.size=some { cls:=.type "list",data:=.seq ([]:List Value).toArray }:=
  (hsb₁.2 _ (Y0j (Y1t _))).trans (Y02 _ (Y06 _ rfl))
 have I4:=Tq (tk:=s2.toks+([]:List (Str×Value)).length) B hN hnm I2 f2 ho c1 c3 hns₁ old hd;have st4:tn 0 h₁:=T.keep _ _ _ st2 fun b _ o e=>old b o e;obtain⟨W,⟨m0,w0⟩,turn⟩:=hW s2.heap.objs.size (I2.hok.fresh (Y04 _));have fr4:∀ b∈fp,(upd H1 s2.heap.objs.size (.lst [])) b=none:=fun b hb=>by
  obtain⟨o,e⟩:=ho b hb;rw[ZZ (Y0j (Y0a e))];exact (f2 b hb).1
 have stat:∀ {H':Hp},(∀ b∈fp,H' b=none)->∀ b∈fp,Yo (blk X sc cl (s2.heap.objs.size+1) N' s2 H1 fp pins) [] H' b:=fun hn b hb=>by
  refine⟨hn b hb,(I4.ok.exf b hb).1,I4.ok.exfs b hb,.inl hb,(I4.ok.exf b hb).2,fun p hp=>?_⟩;have hp:p∈X.pn++pins:=by simpa [blk] using hp
  exact (f2 b hb).2.2.2.2.2 p hp
 have loop:∀ s₃:Shared,s₃={ s2 with heap:=h₁,toks:=s2.toks+([]:List (Str×Value)).length }->
   codeAny (model X.prog X.w) X.A (.compLoop (.ListComp elt [⟨tg,iter,[cnd],0⟩] sc pos) 0 (.ref it) (.ref s2.heap.objs.size) (compEnvC sc cl (s2.heap.objs.size+1) X.env))
    (compPost (model X.prog X.w) X.A X.xe (some (assign (.Name y py) X.env)) (fun _ s'=>SP X pins D .next s') (.ref s2.heap.objs.size) (s2.heap.objs.size+1)) s₃:=by
  rintro s₃ rfl;refine Z58 (fun n s'=>∃ i σ' H',Inv (blk X sc cl (s2.heap.objs.size+1) N' s2 H1 fp pins) [] σ' H' s'/\tn i s'.heap/\(∀ b∈fp,H' b=none)/\W i n σ' H') ?_ m0 ⟨0,_,_,I4,st4,fr4,w0⟩;rintro n s3 ⟨i,σ3,H3,I3,st3,fr3,w3⟩;rcases turn i n σ3 H3 w3 with ⟨stop,q⟩|⟨go,step⟩
  ·refine thn (T.done (blk X sc cl (s2.heap.objs.size+1) N' s2 H1 fp pins) rfl rfl rfl hc i [] s3 σ3 H3 _ I3 (stat fr3) st3 stop) fun r s4 ⟨hr,I5⟩=>?_;subst hr;obtain⟨m,hn,_⟩:=id I5.loc;have U:Un (frs X.stack) fp H1 H3 s2.heap s4.heap:=I5.base;have J5:Inv X pins σ H3 s4:=I2.call' (s':=s4) I5.os U I5.hok I5.bare fun b hb=>⟨(f2 b hb).2.2.2.1,(f2 b hb).2.1,(f2 b hb).2.2.2.2.1,(f2 b hb).2.2.2.2.2⟩;obtain⟨g0,g1,_,g3,g4,g5⟩:Yo X pins H3 (s2.heap.objs.size+1):=I2.fpOk (Y2i _) I5.free;refine wpAny_assign_Name (Z5t J5 hNd hj (.inl hy) (v:=.ref s2.heap.objs.size) rfl (fun s5 K5 ⟨a,sb,ha⟩=>?_) (.inr hy));have hne:s2.heap.objs.size+1≠a:=fun z=>by
    rcases ha with ha|ha
    ·exact g1 (z.trans ha)
    ·exact g4 _ _ ha z.symm
   refine⟨m,hn.sameBut sb hne,fun h' hs'=>⟨_,H3,?_,q⟩⟩;exact K5.turned (t':=s5.toks) (fun b o hb e=>(hs'.2 b hb).trans e) g0 g1 g3 g4 g5
  ·refine thn (T.item (blk X sc cl (s2.heap.objs.size+1) N' s2 H1 fp pins) rfl rfl rfl hc i [] s3 σ3 H3 _ I3 (stat fr3) st3 go) fun r s4 ⟨u,hr,h4⟩=>?_;subst hr;refine thn h4 fun _ s5 ⟨x,H5,I5,r5,y5,st5,fr5⟩=>?_;have I5':=I5.pinned (stat fr5) (T.obj _ _ st5);refine wpAny_mono (hg _ _ _ _ _ _ _ s5 σ3 H5 x u _ I5' r5 (step x H5 y5)) (fun _ s6 ⟨σ6,H6,I6,q6⟩=>?_) fun _ _ z=>z.elim;refine wpAny_mono (hcn _ _ _ _ _ _ _ s6 σ6 H6 _ I6 q6) (fun ok s7 ⟨H7,I7,q7⟩=>?_) fun _ _ z=>z.elim;cases ok with
   | false=>
    have q7:∃ m',m'<n/\W (i+1) m' σ6 H7:=by simpa using q7
    obtain⟨m',hm,w7⟩:=q7;refine⟨m',hm,i+1,σ6,_,I7.unpinned,T.keep _ _ _ st5 fun b hb o e=>(I7.pin (b,o) (Y0b _ (Y0b _ (Yn hb e)))).1,fun b hb=>?_,w7⟩;obtain⟨o,e,_⟩:=T.obj _ _ st5 b hb;exact (I7.pin (b,o) (Y0b _ (Y0b _ (Yn hb e)))).2.1
   | true=>
    rw[if_pos rfl]at q7;refine wpAny_mono (he _ _ _ _ _ _ _ s7 σ6 H7 _ I7 q7) (fun y s8 ⟨z,H8,I8,r8,xs,hx8,hz8,m',hm,w8⟩=>?_) fun _ _ z=>z.elim;refine wpAny_mono (YU (X:=blk X sc cl (s2.heap.objs.size+1) N' s2 H1 fp pins) _ s8 σ6 H8 (.ref s2.heap.objs.size) [z] (.ref s2.heap.objs.size) [y] (fun _ H9=>H9=upd H8 s2.heap.objs.size (.lst (xs++[z]))) I8 rfl (.cons r8 .nil) ⟨_,xs,z,rfl,rfl,hx8,hz8,rfl⟩) (fun _ s9 ⟨_,H9,I9,_,e9⟩=>?_) fun _ _ z=>z.elim;subst e9;refine⟨m',hm,i+1,σ6,_,I9.unpinned,T.keep _ _ _ st5 fun b hb o e=>(I9.pin (b,o) (Y0b _ (Y0b _ (Yn hb e)))).1,fun b hb=>?_,w8⟩;obtain⟨o,e,_⟩:=T.obj _ _ st5 b hb;exact (I9.pin (b,o) (Y0b _ (Y0b _ (Yn hb e)))).2.1
 exact codeAny_compStart_list (loop _ rfl) (T.self _ 0 _ _ _ st4 (loop _ rfl))
end
end L2
namespace K1
open PySem L2 Sq
end K1
namespace L2
open PySem PySem.Spec PyProof.Rows
section
variable {X:Cx}
end
theorem Zbw {c:TT}{tb:TS}{D:YZ}{σ:St}{H:Hp}(Pv:Nat->St->Hp->Prop)(h0:∃ m,Pv m σ H)
  (hs:∀ m σ H,Pv m σ H->c σ H fun b H1=>if b=true then tb { D with nx:=fun σ' H'=>∃ m',m'<m/\Pv m' σ' H',ct:=fun σ' H'=>∃ m',m'<m/\Pv m' σ' H',bk:=D.nx } σ H1 else D.nx σ H1)
  (mono:∀ σ H Q Q',(∀ b H1,Q b H1->Q' b H1)->c σ H Q->c σ H Q'):Zas c tb D σ H:=by
 refine⟨Pv,h0,?_⟩;rintro m σ H p;refine mono σ H _ _ (fun b H1 q=>?_) (hs m σ H p);cases b with
 | true=>exact⟨_,fun σ' H' z=>z,q⟩
 | false=>exact q
end L2
namespace K1
open PySem L2 Sq
theorem Zd0 {Hc:Hp}{m:Nat}{ta:TA}{tt:TT}{pull:List Nat}{Q:VK}{σ:St}{rest:St}(p:Nat->Bool)(hj:∀ R:List V->Hp->Prop,R [.int (m:Int)] Hc->ta σ Hc R)(hb:bst 1 pull σ=none::rest)
  (htt:∀ (i:Nat) (H:Hp) (R:Bool->Hp->Prop),i<m->Z7 Hc H->(∀ H',Z7 H H'->R (p i) H')->tt (some (.int (i:Int))::rest) H R) (hm:m<=1000)
  (k:∀ (H':Hp) (d:Addr),Z7 Hc H'->Hc d=none->H' d=some (.lst (nv ((Y03 m).filter p)))->Q (.ref d) H') :
  Wy (SB ta) 1 pull (ZC 0) tt (ZW 0) σ Hc Q:=by
 refine hj _ ⟨(m:Int),rfl,by omega,by omega,fun d hd=>?_⟩;rw[Y0q,hb];refine Tr (J:=Itr 0 m) (Q:=fun d H'=>Q (.ref d) H') m (fun i xs σ H9=>(∃ o,σ=o::rest)/\Z7 Hc H9/\xs=nv ((Y03 i).filter p)) ⟨⟨_,rfl⟩,Z4 (Z7.refl _) hd,rfl⟩ ?_ ?_
 ·rintro i xs σ H9 hi ⟨⟨o,rfl⟩,s9,rfl⟩ hd9;refine⟨hi,fun x H4 ⟨e1,e2⟩=>?_⟩;subst e1 e2;rw[show (0:Int)+(i:Int)=(i:Int) from by omega];refine htt i _ _ hi s9 fun H5 s5=>?_;have el:((Y03 i).filter p).length<=i:=by have:=Y0u p (Y03 i);simpa using this
  have ef:(Y03 (i+1)).filter p=(Y03 i).filter p++[i].filter p:=by rw[Y1i,Y10]
  cases e:p i with
  | true=>
   have e3:[i].filter p=[i]:=(by simp[e]);rw[if_pos rfl];refine⟨_,rfl,T5 hi (s5 _ _ hd9) (by rw[ZQ];omega) ⟨⟨_,rfl⟩,Z4 (s9.trans s5) hd,?_⟩⟩;rw[ef,e3,XD]
  | false=>
   have e3:[i].filter p=[]:=(by simp[e]);rw[if_neg (by decide)];refine Ss hi (s5 _ _ hd9) ⟨⟨_,rfl⟩,s9.trans s5,?_⟩;rw[ef,e3,Y1h]
 ·rintro xs σ H9 ⟨⟨o,rfl⟩,s9,rfl⟩ hd9;exact⟨Y04 _,k H9 d s9 hd hd9⟩
theorem Zfx {H H':Hp}(s:Z7 H H'){x:Addr}(h:H' x=none):H x=none:=by
 cases e:H x with
 | none=>rfl
 | some o=>rw[s _ _ e]at h;cases h
def Zi5:Sp:=fun vs H Q _=>∃ (a p q:Addr) (n:Nat) (r u M S:List Nat),vs=[.ref a,.ref p,.ref q]/\ZN H a r u/\H p=some (.lst (nv M))/\H q=some (.lst (nv S))/\Row n u/\(∀ x∈S,x<n)/\n<=36/\1<=S.length/\S.length<=36/\Yj M S=true/\
 ∀ (H':Hp) (x:Addr),Z7 H H'->H x=none->XC H' x S.length (wid n u M S) (SK M S (ups u S (wid n u M S)))->Q (.ref x) H'
section
variable {P:Program}{w:World}{K:Y00}{mg:Str->Option Value}{base:Heap}
noncomputable abbrev n_bf:List Str:=["sheet","edge","lowest","above","width","length","shifts"]
theorem Wj:ZO n_bf ["sheet","edge","lowest"] (Z0 V2):=⟨rfl,rfl,rfl,by decide +kernel,rfl,by decide +kernel,by decide +kernel⟩
theorem ZiC:(["t","edge","lowest","above"]:List Str).Nodup:=by decide +kernel
theorem Zj3 {f fa fh fs:Addr}{fd da dh ds:FuncData}(T:Bi mg)(F:Fn K mg "band_from" V2 ["sheet","edge","lowest"] f fd)(FA:Fn K mg "above_all" V4 ["sheet","squares"] fa da)(GA:Z6 P w K mg base CX0 1 fa da ["sheet","squares"] spAb)
  (FH:Fn K mg "has_some" WC ["edge","squares"] fh dh) (GH:Z6 P w K mg base CX0 1 fh dh ["edge","squares"] Si)
  (FS:Fn K mg "has_shift" V3 ["edge","lowest","above","t"] fs ds) (GS:Z6 P w K mg base CX0 1 fs ds ["edge","lowest","above","t"] ZiK):Z6 P w K mg base CX0 2 f fd ["sheet","edge","lowest"] Zi5:=by
 refine F.F.ok Wj (fun vs H Q E h=>?_) (fun cdv A outer s H vs Q E hr h=>?_)
 ·obtain⟨a,p,q,n,r,u,M,S,rfl,_⟩:=h;rfl
 ·obtain⟨a,p,q,n,r,u,M,S,rfl,hsh,hp,hq,ru,lt,n36,l1,l36,hh,k⟩:=h;have hr1:ZR 1 _:=hr.mono (by decide);refine⟨_,(Z5 (ZP (i:=3) Wj.nd rfl (Or.inr rfl) (ZU GA hr1 rfl FA.m FA.F.kp FA.b .nil ZX (Z9 (pv 0) (Z9 (pv 2) Z8))))
   (Z5 (ZP (i:=4) Wj.nd rfl (Or.inl rfl) Z3)
   (Z5 (W3 PassesOwn.never (Yt (YW (ZU GH hr1 rfl FH.m FH.F.kp FH.b .nil ZX (Z9 (pv 1) (Z9 (pv 3) Z8))))) (Z5 (ZP (i:=3) Wj.nd rfl (Or.inr rfl) (ZU GA hr1 rfl FA.m FA.F.kp FA.b .nil ZX (Z9 (pv 0) (Z9 (pv 3) Z8))))
   (Z1 (ZdO (i:=4) Wj.nd rfl (Or.inl rfl) Z3 Ze1))))
   (Z5 (ZP (i:=5) Wj.nd rfl (Or.inl rfl) (ZF Zk rfl T.len PySem.boot_len (Z9 (pv 2) Z8)))
   (Z5 (Z6X (j:=6) (N:=n_bf) (names:=(Z0 V2).names) (N':=["t","edge","lowest","above"]) (k:=1) (pull:=[1,2,3]) (tt:=tB (Yz ZiK [] E0 (ZM (ZW 1) (ZM (ZW 2) (ZM (ZW 3) (ZM (ZW 0) Zx)))))) (te:=(ZW 0)) rfl Wj.nd rfl rfl ⟨by rfl,by decide +kernel,by decide +kernel,by rfl,by decide +kernel,by decide +kernel⟩ rfl rfl (X9 rfl T.range (Z9 (pv 5) Z8)) (fun _ _ _ _ _ _=>ZE (i:=0) ZiC rfl (Or.inl rfl)) (fun _ _ _ _ _ _=>YW (ZU GS hr1 rfl FS.m FS.F.kp FS.b .nil ZX (Z9 (pv 1) (Z9 (pv 2) (Z9 (pv 3) (Z9 (pv 0) Z8)))))) (fun _ _ _ _ _ _=>(pv 0)))
   (Z1 (ZS (Y2 (Z9 (pv 5) (Z9 (pv 4) (Z9 (Y7 XH rfl T.tuple Yg (Z9 (pv 6) Z8)) Z8))))))))))),?_⟩
  obtain⟨w1,w2,w3,w4⟩:=ZfP ru lt hh;have sl3:3<=sizeLine:=by decide
  refine⟨_,rfl,_,rfl,a,q,n,r,u,S,rfl,hsh,hq,ru,lt,by omega,fun H1 l s1 hl0 hl=>?_⟩;show Yh _ _ _ _ _;refine Zbw (fun m σ H3=>Z7 H H3/\∃ (l:Addr) (j:Nat),m=wid n u M S-j/\1<=j/\j<=wid n u M S/\σ=[some (.ref a),some (.ref p),some (.ref q),some (.ref l),some (.int (j:Int)),none,none]/\H3 l=some (.lst (nv (ups u S j)))) ⟨_,s1,l,1,rfl,Y04 _,w3,rfl,by rw[ZfE];exact hl⟩ ?_ ?_
  ·rintro m σ H3 ⟨s3,l,j,rfl,j1,j2,rfl,hl⟩;refine⟨_,rfl,_,rfl,p,l,M,ups u S j,rfl,s3 _ _ hp,hl,by rw[Z7R];omega,fun H4 s4=>⟨_,rfl,?_⟩⟩
   by_cases ej:j=wid n u M S
   ·subst ej;rw[w1];refine ZG ?_;refine⟨_,rfl,q,_,rfl,.inl (SqL.of ((s3.trans s4) _ _ hq)),?_⟩;rw[ZQ];dsimp only [Wf,Yh,Xv,ZC];refine Zd0 (m:=S.length) (rest:=[some (.ref p),some (.ref q),some (.ref l)]) (VE M S (ups u S (wid n u M S))) (fun R hR=>⟨_,rfl,hR⟩) rfl (fun i H5 R hi s5 hR=>?_) (by omega) fun H6 e s6 he0 he=>?_
    ·exact⟨_,rfl,_,rfl,_,rfl,_,rfl,p,q,l,M,S,ups u S (wid n u M S),i,rfl,(s3.trans (s4.trans s5)) _ _ hp,(s3.trans (s4.trans s5)) _ _ hq,(s4.trans s5) _ _ hl,Z7R _ _ _,l36,l1,fun H7 s7=>⟨_,rfl,hR H7 s7⟩⟩
    ·refine⟨_,rfl,_,rfl,_,rfl,e,_,rfl,.inl ⟨SqL.of he,fun t ht=>?_⟩⟩;refine⟨sl3,fun x hx=>?_⟩;have u1:=Z4 (o:=.tup (nv (SK M S (ups u S (wid n u M S))))) (Z7.refl H6) ht;have u2:=Z4 (o:=.tup [.int (S.length:Int),.int (wid n u M S:Int),.ref t]) (Z7.refl (upd H6 t (.tup (nv (SK M S (ups u S (wid n u M S))))))) hx;have sa:=s3.trans (s4.trans (s6.trans (u1.trans u2)));exact k _ x sa (Zfx (s3.trans (s4.trans (s6.trans u1))) hx) ⟨t,Z2,u2 _ _ Z2⟩
   ·rw[w2 j j1 (by omega)];refine Zo ?_;refine⟨_,rfl,_,rfl,a,l,n,r,u,ups u S j,rfl,hsh.same (s3.trans s4),s4 _ _ hl,ru,ZgR ru lt j,by rw[Z7R];omega,fun H5 l' s5 hl0 hl'=>?_⟩;refine⟨_,rfl,_,_,rfl,rfl,wid n u M S-(j+1),by omega,s3.trans (s4.trans s5),l',j+1,rfl,by omega,by omega,rfl,by rw[Z8w];exact hl'⟩
  ·rintro σ H' Q1 Q2 hq ⟨y,e1,y2,e2,a1,a2,a3,a4,a5,a6,a7,a8,a9⟩;exact⟨y,e1,y2,e2,a1,a2,a3,a4,a5,a6,a7,a8,fun H1 s1=>let ⟨c,ec,hc⟩:=a9 H1 s1;⟨c,ec,hq _ _ hc⟩⟩
end
end K1
namespace Sq
noncomputable def rds (n:Nat)(w:List Nat)(i:Nat):List (List Nat):=((Y03 i).filter (Zq n w)).map (cyc n w)
theorem Tp {n:Nat}{w:List Nat}(i:Nat):(rds n w i).length<=i:=by
 unfold rds;rw[Y05];have:=Y0u (Zq n w) (Y03 i)
 rwa [Y0m]at this
theorem WI {n:Nat}{w M:List Nat}(h:M∈Zp n w):∃ x,x<n/\Zq n w x=true/\M=cyc n w x:=by
 obtain⟨l,hl,rfl⟩:=Y0d.mp h;obtain⟨h1,h2⟩:=Y0s.mp hl;exact⟨l,Y08.mp h1,h2,rfl⟩
end Sq
namespace K1
open PySem L2 Sq
noncomputable abbrev Bd:Type:=Nat×Nat×List Nat
noncomputable def bk (b:Bd):List Int:=XI b.1 b.2.1 b.2.2
theorem Z6x:∀ {a b:List Nat},YS a=YS b->a=b
 | [],[],_=>rfl
 | [],_::_,h=>by cases h
 | _::_,[],h=>by cases h
 | x::a,y::b,h=>by
  have h':(x:Int)::YS a=(y:Int)::YS b:=h;have h1:=(List.cons.inj h').1;have h2:=Z6x (List.cons.inj h').2;rw[h2,show x=y from by omega]
theorem Zhd {b c:Bd}(h:bk b=bk c):b=c:=by
 have:=Z6x h;obtain⟨b1,b2,b3⟩:=b;obtain⟨c1,c2,c3⟩:=c;simp only[List.cons.injEq]at this;obtain⟨rfl,rfl,rfl⟩:=this
 rfl
def Ur (bs:List Bd):Prop:=bs.Pairwise fun x y=>HT.lexLt (bk y) (bk x)=false
theorem Z5x {bs cs:List Bd}(p:bs.Perm cs)(h1:Ur bs)(h2:Ur cs):bs=cs:=
 List.Perm.eq_of_pairwise (fun a b _ _ x y=>Zhd (Z7K y x)) h1 h2 p
def Zc (H:Hp):List Addr->List Bd->Prop
 | [],[]=>True
 | a::as,b::bs=>XC H a b.1 b.2.1 b.2.2/\Zc H as bs
 | _,_=>False
theorem Zc.len {H:Hp}:∀ {as:List Addr} {bs:List Bd},Zc H as bs->as.length=bs.length
 | [],[],_=>rfl
 | _::as,_::Ms,⟨_,h2⟩=>by simp[Zc.len h2]
 | [],_::_,h=>h.elim
 | _::_,[],h=>h.elim
theorem Zc.get {H:Hp}:∀ {as:List Addr} {bs:List Bd},Zc H as bs->∀ {i:Nat} {a:Addr},as[i]?=some a->∃ b,bs[i]?=some b/\XC H a b.1 b.2.1 b.2.2
 | [],[],_,i,a,h=>by simp at h
 | b::as,M::Ms,⟨h1,h2⟩,0,a,h=>by simp at h;subst h;exact⟨M,rfl,h1⟩
 | b::as,M::Ms,⟨h1,h2⟩,i+1,a,h=>by
  obtain⟨M',e1,e2⟩:=Zc.get h2 (i:=i) (a:=a) (by simpa using h);exact⟨M',by simpa using e1,e2⟩
 | [],_::_,h,_,_,_=>h.elim
 | _::_,[],h,_,_,_=>h.elim
theorem Zc.snoc {H:Hp}:∀ {as:List Addr} {Ms:List Bd} {a:Addr} {M:Bd},Zc H as Ms->XC H a M.1 M.2.1 M.2.2->Zc H (as++[a]) (Ms++[M])
 | [],[],_,_,_,h=>⟨h,trivial⟩
 | _::_,_::_,_,_,⟨h1,h2⟩,h=>⟨h1,Zc.snoc h2 h⟩
 | [],_::_,_,_,h,_=>h.elim
 | _::_,[],_,_,h,_=>h.elim
theorem Zc.mono {H H':Hp}(e:∀ b xs,H b=some (.tup xs)->H' b=some (.tup xs)):∀ {as:List Addr} {bs:List Bd},Zc H as bs->Zc H' as bs
 | [],[],_=>trivial
 | _::_,_::_,⟨⟨t,h1,h3⟩,h2⟩=>⟨⟨t,e _ _ h1,e _ _ h3⟩,Zc.mono e h2⟩
 | [],_::_,h=>h.elim
 | _::_,[],h=>h.elim
theorem Zfo {H:Hp}{d:Addr}{o:HO}{ys:List V}(hd:H d=some (.lst ys)):∀ b xs,H b=some (.tup xs)->upd H d o b=some (.tup xs):=fun b xs h=>by
 rw[ZZ (fun e=>by rw[e,hd]at h;cases h)];exact h
theorem ZeS {H:Hp}{d:Addr}{o:HO}(hd:H d=none):∀ b xs,H b=some (.tup xs)->upd H d o b=some (.tup xs):=fun b xs h=>by
 rw[ZZ (fun e=>by rw[e,hd]at h;cases h)];exact h
theorem Zc.same {H H':Hp}{as:List Addr}{bs:List Bd}(s:Z7 H H')(h:Zc H as bs):Zc H' as bs:=Zc.mono (fun b xs h=>s _ _ h) h
theorem Zc.pick {H:Hp}{as:List Addr}{bs:List Bd}(h:Zc H as bs):∀ π:List Nat,(∀ i∈π,i<as.length)->Zc H (π.map fun i=>as.getD i 0) (π.map fun i=>bs.getD i (0,0,[]))
 | [],_=>trivial
 | i::π,hi=>by
  refine⟨?_,Zc.pick h π fun j hj=>hi j (by simp[hj])⟩;have hlt:=hi i (by simp);have ha:as[i]?=some as[i]:=Y01 hlt;obtain⟨b,hb,hB⟩:=h.get ha;show XC H (as.getD i 0) (bs.getD i (0,0,[])).1 (bs.getD i (0,0,[])).2.1 (bs.getD i (0,0,[])).2.2;have e1:as.getD i 0=as[i]:=by rw[Y0h,ha];rfl
  have e2:bs.getD i (0,0,[])=b:=by rw[Y0h,hb];rfl
  rw[e1,e2];exact hB
theorem Z9i {α:Type}(d:α)(l:List α):(Y03 l.length).map (fun i=>l.getD i d)=l:=by
 apply Y31;intro i
 by_cases h:i<l.length
 ·simp[h]
 ·simp[h,Nat.le_of_not_lt h]
theorem Zcu {K:Y00}{H:Hp}{p:Addr}{as:List Addr}{bs:List Bd}{Q:VK}(hp:H p=some (.lst (as.map V.ref)))(h:Zc H as bs)(hl:as.length<64)
  (k:∀ (l:Addr) (as':List Addr) (bs':List Bd),H l=none->Zc (upd H l (.lst (as'.map V.ref))) as' bs'->bs'.Perm bs->Ur bs'->Q (.ref l) (upd H l (.lst (as'.map V.ref)))):Z93 K [.ref p] H Q:=by
 have hlen:=h.len;refine⟨p,as,fun i=>(bs.getD i (0,0,[])).1,fun i=>(bs.getD i (0,0,[])).2.1,fun i=>(bs.getD i (0,0,[])).2.2,rfl,SqL.of hp,hl,fun i hi=>?_,fun l π hl0 hπ hs=>?_⟩
 ·have:=(h.pick [i] (by simpa using hi)).1;exact this
 ·refine k l _ (π.map fun i=>bs.getD i (0,0,[])) hl0 (Zc.mono (ZeS hl0) (h.pick π fun i hi=>Y08.mp (hπ.mem_iff.mp hi))) ?_ ?_
  ·have:=hπ.map (fun i=>bs.getD i ((0,0,[]):Bd));rw[hlen,Z9i]at this;exact this
  ·exact Y2l.mpr hs
theorem Zft {K:Y00}{Hc:Hp}{tl te:TE}{tt:TT}{g:TG}{m:Nat}{pull:List Nat}{Q:VK}{σ:St}(Pr:Hp->Addr->Prop)(hj:∀ R:VK,(∀ H1 a,Pr H1 a->R (.ref a) H1)->tl σ Hc R)
  (k:∀ H1 a,Pr H1 a->Wy (Yr K (fun _ H R=>R (.ref a) H)) m pull g tt te σ H1 Q):Wy (Yr K tl) m pull g tt te σ Hc Q:=hj _ fun H1 a h=>k H1 a h
theorem Zaa {K:Y00}{Hc:Hp}{a:Addr}{rs:List Addr}{Ms:List (List Nat)}{te:TE}{tt:TT}{pull:List Nat}{Q:VK}{σ:St}{rest:St}(p:List Nat->Bool)(g:List Nat->Bd)
  (hp:Hc a=some (.lst (rv rs))) (hL:Zb Hc rs Ms) (hb:bst 1 pull σ=none::rest)
  (htt:∀ (b:Addr) (M:List Nat) (H:Hp) (R:Bool->Hp->Prop),M∈Ms->Z7 Hc H->H b=some (.lst (nv M))->(∀ H',Z7 H H'->R (p M) H')->tt (some (.ref b)::rest) H R)
  (hte:∀ (b:Addr) (M:List Nat) (H:Hp) (R:VK),M∈Ms->p M=true->Z7 Hc H->H b=some (.lst (nv M))->(∀ (H':Hp) (x:Addr),Z7 H H'->XC H' x (g M).1 (g M).2.1 (g M).2.2->R (.ref x) H')->te (some (.ref b)::rest) H R)
  (hm:Ms.length<=1000)
  (k:∀ (H':Hp) (d:Addr) (as:List Addr),Z7 Hc H'->Hc d=none->Zc H' as ((Ms.filter p).map g)->H' d=some (.lst (as.map V.ref))->Q (.ref d) H') :
  Wy (Yr K (fun _ H R=>R (.ref a) H)) 1 pull (ZC 0) tt te σ Hc Q:=by
 have hlen:=hL.len;refine⟨a,rfl,⟨_,SqL.of hp⟩,fun d hd=>?_⟩;rw[hb];refine Tr (J:=Itl K a) (Q:=fun d H'=>Q (.ref d) H') rs.length (fun i xs σ H9=>(∃ o,σ=o::rest)/\Z7 Hc H9/\∃ as:List Addr,xs=as.map V.ref/\as.length<=i/\Zc H9 as (((Ms.take i).filter p).map g)) ⟨⟨_,rfl⟩,Z4 (Z7.refl _) hd,[],rfl,Y04 _,trivial⟩ ?_ ?_
 ·rintro i xs σ H9 hi ⟨⟨o,rfl⟩,s9,as,rfl,la,hB⟩ hd9;have hq:=SqL.of (K:=K) (s9 _ _ hp);have ha:rs[i]?=some rs[i]:=Y01 hi;generalize rs[i]=b at ha;obtain⟨M,hM,hb9⟩:=hL.get ha;have hmM:=Y0o hM;have hmi:(rv rs)[i]?=some (.ref b):=Wu ha;refine⟨⟨_,_,hq,hmi⟩,fun y H4 ⟨e1,hy⟩=>?_⟩;subst e1;have hy:=hy _ hq;rw[hmi]at hy;cases hy;refine htt b M _ _ hmM s9 (s9 _ _ hb9) fun H5 s5=>?_;have ef:((Ms.take (i+1)).filter p).map g=((Ms.take i).filter p).map g++([M].filter p).map g:=by
   rw[Y1v,hM,Y10,Y0t];rfl
  cases e:p M with
  | true=>
   have e3:[M].filter p=[M]:=(by simp[e]);rw[if_pos rfl];refine hte b M _ _ hmM e (s9.trans s5) (s5 _ _ (s9 _ _ hb9)) fun H6 x s6 hx=>?_;have hd6:=s6 _ _ (s5 _ _ hd9);refine T5 hi hd6 (by rw[Y05];omega) ⟨⟨_,rfl⟩,Z4 ((s9.trans s5).trans s6) hd,as++[x],by simp,by simp;omega,?_⟩;rw[ef,e3];refine Zc.mono (Zfo hd6) (Zc.snoc (hB.same (s5.trans s6)) hx)
  | false=>
   have e3:[M].filter p=[]:=(by simp[e]);rw[if_neg (by decide)];refine Ss hi (s5 _ _ hd9) ⟨⟨_,rfl⟩,s9.trans s5,as,rfl,by omega,?_⟩;rw[ef,e3,Y3m,Y1h];exact hB.same s5
 ·rintro xs σ H9 ⟨⟨o,rfl⟩,s9,as,rfl,la,hB⟩ hd9;rw[hlen,Y2a]at hB;exact⟨⟨_,SqL.of (s9 _ _ hp),by rw[XY];exact Y04 _⟩,k H9 d as s9 hd hB hd9⟩
end K1
namespace Sq
noncomputable def Wq (n:Nat)(w:List Nat):List Nat:=((Zp n w).filter fun M=>decide (1<M.length)).flatten
noncomputable def WB (n:Nat)(w:List Nat):List Nat:=(Y03 n).filter fun x=>!decide (nx w x=x)
theorem Z5W {α:Type}(p:List α->Bool):∀ l:List (List α),((l.filter p).flatten).Sublist l.flatten
 | []=>List.Sublist.refl _
 | a::l=>by
  by_cases h:p a=true
  ·rw[Y13 h,Y1u,Y1u];exact List.Sublist.append_left (Z5W p l) a
  ·rw[Y1e h,Y1u];exact (Z5W p l).trans (List.sublist_append_right _ _)
section
variable {n:Nat}{w:List Nat}
theorem Zec {x:Nat}(h:nx w x=x):∀ i,it w x i=x
 | 0=>rfl
 | i+1=>by show nx w (it w x i)=x;rw[Zec h i,h]
theorem Z6W (rw':Row n w){l x:Nat}(hl:l<n)(hx:x∈cyc n w l):1<(cyc n w l).length↔nx w x≠x:=by
 have hxn:=XO rw' hl hx;constructor
 ·intro h e;have hlx:l=x:=by
   obtain⟨i,_,rfl⟩:=Ws rw' (Ti rw' hl hx);exact Zec e i
  subst hlx;exact (YT rw' hl).new 1 (Y04 _) h e
 ·intro h;have hp:=(YT rw' hl).pos;rcases Y0x 1 (cyc n w l).length with c|c
  ·exact c
  ·have h1:(cyc n w l).length=1:=(by lia);have hb:=(YT rw' hl).back;rw[h1]at hb;obtain⟨i,hi,rfl⟩:=Ws rw' hx;rw[Wx]at h1;have:i=0:=(by lia);subst this;exact absurd hb h
theorem Z3m (rw':Row n w):(Wq n w).Perm (WB n w):=by
 have hp:=Z3p rw';have nd:(Zp n w).flatten.Nodup:=hp.nodup_iff.mpr Y1y;refine (Y32 (List.Nodup.sublist (Z5W _ _) nd) (List.Nodup.sublist List.filter_sublist Y1y)).mpr fun x=>?_;constructor
 ·intro h;obtain⟨M,hM,hx⟩:=Y1z.mp h;obtain⟨h1,h2⟩:=Y0s.mp hM;obtain⟨l,hl,rfl⟩:=Y0d.mp h1;have hl:=Y08.mp (Y0s.mp hl).1;have:=(Z6W rw' hl hx).mp (of_decide_eq_true h2);exact Y0s.mpr ⟨Y08.mpr (XO rw' hl hx),by show (!decide (nx w x=x))=true;rw[decide_eq_false this];rfl⟩
 ·intro h;obtain⟨h1,h2⟩:=Y0s.mp h;have h2:nx w x≠x:=fun e=>by
   have h2:(!decide (nx w x=x))=true:=h2;rw[decide_eq_true e]at h2;cases h2
  obtain⟨l,hl,hld,hx⟩:=UF rw' (Y08.mp h1);exact Y1z.mpr ⟨_,Y0s.mpr ⟨Y0d.mpr ⟨l,Y0s.mpr ⟨Y08.mpr hl,hld⟩,rfl⟩,decide_eq_true ((Z6W rw' hl hx).mpr h2)⟩,hx⟩
theorem Z5f:(WB n w).Pairwise (·<=·):=List.Pairwise.filter _ (Z4j n)
theorem Za1 (rw':Row n w):(Wq n w).Nodup:=(Z3m rw').nodup_iff.mpr (List.Nodup.sublist List.filter_sublist Y1y)
theorem Z5M (rw':Row n w):(Wq n w).length<=n:=by
 rw[(Z3m rw').length_eq];have:=Y0u (fun x=>!decide (nx w x=x)) (Y03 n)
 rwa [Y0m]at this
end
end Sq
namespace K1
open PySem L2 Sq
noncomputable def ik (x:Nat):Key:=Sum.inl (x:Int)
noncomputable def XJ (n:Nat)(w:List Nat):List Nat:=if WB n w=[] then [0] else WB n w
def ZbZ:Sp:=fun vs H Q _=>∃ (a:Addr) (n:Nat) (r u:List Nat),vs=[.ref a]/\ZN H a r u/\Row n r/\Row n u/\n<=36/\
 ∀ (H':Hp) (d:Addr) (kvs:List (Key×V)),Z7 H H'->H d=none->H' d=some (.dK kvs)->kvs.map (·.1)=(Wq n (Zn r u)).map ik->Q (.ref d) H'
def Z6N:Sp:=fun vs H Q _=>∃ (a:Addr) (n:Nat) (r u:List Nat),vs=[.ref a]/\ZN H a r u/\Row n r/\Row n u/\n<=36/\
 ∀ (H':Hp) (l:Addr),Z7 H H'->H l=none->H' l=some (.lst (nv (XJ n (Zn r u))))->Q (.ref l) H'
theorem Zdq {kvs:List (Key×V)}{F:List Nat}(h:kvs.map (·.1)=F.map ik){y:Nat}(hy:y∉F):Zl kvs (ik y)=none:=by
 cases e:Zl kvs (ik y) with
 | none=>rfl
 | some v=>
  have:=Z80 e;rw[h]at this;obtain⟨x,hx,ex⟩:=Y0d.mp this;have:x=y:=by have:=Sum.inl.inj ex;omega
  exact absurd (this ▸ hx) hy
section
variable {P:Program}{w:World}{K:Y00}{mg:Str->Option Value}{base:Heap}
noncomputable abbrev nRs:List Str:=["sheet","least","corner","square"]
theorem Sj:ZO nRs ["sheet"] (Z0 U6):=⟨rfl,rfl,rfl,by decide +kernel,rfl,by decide +kernel,by decide +kernel⟩
set_option maxHeartbeats 2000000 in
theorem ZdH {f fc:Addr}{fd fdc:FuncData}(T:Bi mg)(F:Fn K mg "rough_squares" U6 ["sheet"] f fd)(FC:Fn K mg "corners" WD ["sheet"] fc fdc)(GC:Z6 P w K mg base CX0 6 fc fdc ["sheet"] Tu) :
  Z6 P w K mg base CX0 7 f fd ["sheet"] ZbZ:=by
 refine F.F.ok Sj (fun vs H Q E h=>?_) (fun cdv A outer s H vs Q E hr h=>?_)
 ·obtain⟨a,n,r,u,rfl,_⟩:=h;rfl
 ·obtain⟨a,n,r,u,rfl,hsh,rr,ru,hn,k⟩:=h;have hu:=Sx hr;refine⟨_,Z5 (ZP (i:=1) Sj.nd rfl (Or.inl rfl) Z6g)
   (Z5 (YQ PassesOwn.never rfl (Y5 (ZU GC hr rfl FC.m FC.F.kp FC.b .nil ZX (Z9 (pv 0) Z8))) (ZE (i:=2) Sj.nd rfl (Or.inl rfl))
    (Z1 (Zu (Zt Vm (ZF Zk rfl T.len PySem.boot_len (Z9 (pv 2) Z8)) Z3 (Zw _))
     (Z1 (YQ PassesOwn.never rfl (Y5 (pv 2)) (ZE (i:=3) Sj.nd rfl (Or.inl rfl))
      (Z1 (S0 hu (pv 1) (pv 3) (ZY Zs (pv 2) Z3 (fun _ _=>rfl)) rfl)))) Zr)))
   (Z1 (ZS (pv 1)))),?_⟩
  intro d hd;have s0:Z7 H (upd H d (.dK [])):=Z4 (Z7.refl H) hd;have rl:=WG rr ru;refine⟨_,rfl,a,n,r,u,rfl,hsh.same s0,rr,ru,hn,fun H1 l as s1 fl hl fr hL=>?_⟩;have e1:H1 d=some (.dK []):=s1 _ _ Z2;have hlen:=hL.len;have hnd:=Za1 rl;have hrl:=Z5M rl;have ndl:l≠d:=fun e=>by rw[e,Z2]at fl;cases fl
  refine⟨l,rfl,⟨_,SqL.of hl⟩,VW (K:=K) (a:=l) (xs:=rv as) (fun i σ H2=>∃ o2 o3 kvs,σ=[some (.ref a),some (.ref d),o2,o3]/\(∀ b o,b≠d->H1 b=some o->H2 b=some o)/\H2 d=some (.dK kvs)/\kvs.map (·.1)=((((Zp n (Zn r u)).take i).filter fun M=>decide (1<M.length)).flatten).map ik) ⟨_,_,[],rfl,fun _ _ _ h=>h,e1,rfl⟩ (fun i σ H2 _ ⟨_,_,_,_,s2,_⟩=>SqL.of (s2 _ _ ndl hl)) ?_ ?_⟩
  ·rintro i x σ H2 hx ⟨o2,o3,kvs,rfl,s2,h2d,hk⟩;have hi:i<as.length:=by
    have:=(Y07.mp hx).1
    rwa [XY]at this
   have ha:as[i]?=some as[i]:=Y01 hi;generalize as[i]=b at ha;rw[Wu ha]at hx;cases hx;obtain⟨M,hM,hB⟩:=hL.get ha;have nbd:b≠d:=fun e=>by
    have:=fr b (Y0o ha);rw[e,Z2]at this;cases this
   have hB2:=s2 _ _ nbd hB;have hfl:(((Zp n (Zn r u)).take (i+1)).filter fun M=>decide (1<M.length)).flatten=((((Zp n (Zn r u)).take i).filter fun M=>decide (1<M.length)).flatten)++(if 1<M.length then M else []):=by
    rw[Y1v,hM,Y10,Y22];congr 1
    by_cases c:1<M.length
    ·simp[c]
    ·simp[c]
   have hsplit:Wq n (Zn r u)=((((Zp n (Zn r u)).take (i+1)).filter fun M=>decide (1<M.length)).flatten)++((((Zp n (Zn r u)).drop (i+1)).filter fun M=>decide (1<M.length)).flatten):=by
    unfold Wq;rw[<-Y22,<-Y10,Y2g]
   refine⟨_,rfl,b,_,rfl,.inl (SqL.of hB2),_,_,rfl,rfl,_,rfl,?_⟩;rw[ZQ];refine Yv (fun hgt=>?_) (fun hle=>?_)
   ·have hgt:(1:Int)<(M.length:Int):=of_decide_eq_true hgt;have hgt':1<M.length:=(by omega);rw[if_pos hgt']at hfl;generalize hFe:(((Zp n (Zn r u)).take i).filter fun M=>decide (1<M.length)).flatten=Fl at hk hfl;rw[hfl]at hsplit;have hnd2:(Fl++M).Nodup:=(by rw[hsplit]at hnd;exact (Y2m.mp hnd).1);have hlen2:Fl.length+M.length<=36:=by
     have:=congrArg Y1k hsplit;rw[Y09,Y09]at this;omega
    have h0:M[0]?=some (M[0]'(by omega)):=Y01 (by omega);refine⟨_,rfl,b,rfl,⟨_,SqL.of hB2⟩,VW (K:=K) (a:=b) (xs:=nv M) (fun j σ H3=>∃ o3 kvs,σ=[some (.ref a),some (.ref d),some (.ref b),o3]/\(∀ b o,b≠d->H1 b=some o->H3 b=some o)/\H3 d=some (.dK kvs)/\kvs.map (·.1)=(Fl++M.take j).map ik) ⟨_,kvs,rfl,s2,h2d,by rw[List.take_zero,Y1h];exact hk⟩ (fun j σ H3 _ ⟨_,_,_,s3,_⟩=>SqL.of (s3 _ _ nbd hB)) ?_ ?_⟩
    ·rintro j v σ H3 hv ⟨o3,kvs3,rfl,s3,h3d,hk3⟩;obtain⟨y,hy,rfl⟩:=VH hv;have hj:j<M.length:=(Y07.mp hy).1;have hB3:=s3 _ _ nbd hB;have hmt:M.take (j+1)=M.take j++[y]:=(by rw[Y1v,hy];rfl);have hny:y∉Fl++M.take j:=by
      have e:Fl++M=(Fl++M.take j)++(y::M.drop (j+1)):=by
       rw[Y2c];congr 1;have e1:y=M[j]:=(by rw[Y01 hj]at hy;exact (Option.some.inj hy).symm);rw[e1,<-Y26 hj,Y2g]
      rw[e]at hnd2;exact fun z=>(Y2m.mp hnd2).2.2 y z y (by simp) rfl
     have hvn:=Zdq hk3 hny;have hkl:kvs3.length=(Fl++M.take j).length:=by simpa using congrArg Y1k hk3
     have hkl2:(Fl++M.take j).length<=36:=(by rw[Y09,Y1m];omega);refine⟨_,rfl,b,_,0,_,rfl,rfl,SqL.of hB3,ZV (j:=0) (Zy h0),_,rfl,_,rfl,d,_,rfl,WN.k (k:=ik y) h3d (by rw[hkl];exact Zj (by omega)),?_⟩;rw[Xq _ hvn];refine⟨_,_,rfl,fun c o hc ho=>by rw[ZZ hc];exact s3 c o hc ho,Z2,?_⟩;rw[Y0t,hk3,hmt];simp
    ·rintro σ H3 ⟨o3,kvs3,rfl,s3,h3d,hk3⟩;rw[ZQ,Y2a]at hk3;exact⟨_,_,_,rfl,s3,h3d,by rw[hfl];exact hk3⟩
   ·have hle:¬ (1:Int)<(M.length:Int):=fun z=>hle (decide_eq_true z);rw[if_neg (by omega),Y1h]at hfl;exact⟨_,_,kvs,rfl,s2,h2d,by rw[hfl];exact hk⟩
  ·rintro σ H2 ⟨o2,o3,kvs,rfl,s2,h2d,hk⟩;rw[XY,hlen,Y2a]at hk;exact⟨_,rfl,k H2 d kvs (fun b o ho=>s2 _ _ (fun e=>by rw[e,hd]at ho;cases ho) (s1 _ _ (s0 _ _ ho))) hd h2d hk⟩
theorem scBo:ZO ["sheet","rough"] ["sheet"] (Z0 UT):=⟨rfl,rfl,rfl,by decide +kernel,rfl,by decide +kernel,by decide +kernel⟩
theorem Z9s {f fc:Addr}{fd fdc:FuncData}(T:Bi mg)(F:Fn K mg "borders" UT ["sheet"] f fd)(FC:Fn K mg "rough_squares" U6 ["sheet"] fc fdc)(GC:Z6 P w K mg base CX0 7 fc fdc ["sheet"] ZbZ) :
  Z6 P w K mg base CX0 8 f fd ["sheet"] Z6N:=by
 refine F.F.ok scBo (fun vs H Q E h=>?_) (fun cdv A outer s H vs Q E hr h=>?_)
 ·obtain⟨a,n,r,u,rfl,_⟩:=h;rfl
 ·obtain⟨a,n,r,u,rfl,hsh,rr,ru,hn,k⟩:=h;refine⟨_,Z5 (ZP (i:=1) scBo.nd rfl (Or.inl rfl) (ZU GC hr rfl FC.m FC.F.kp FC.b .nil ZX (Z9 (pv 0) Z8)))
   (Z5 (Zu (Zt Ze (ZF Z7n rfl T.len PySem.boot_len (Z9 (pv 1) Z8)) Z3 (Zw _)) (Z1 (ZS (Y8 (Z9 Z3 Z8)))) Zr)
   (Z1 (ZS (ZF (U2 rfl) rfl T.sorted V7 (Z9 (pv 1) Z8))))),?_⟩
  have rl:=WG rr ru;have hp:=Z3m rl;have hrl:=Z5M rl;refine⟨_,rfl,a,n,r,u,rfl,hsh,rr,ru,hn,fun H1 d kvs s1 fd' hd hk=>?_⟩;have hkl:kvs.length=(Wq n (Zn r u)).length:=by simpa using congrArg Y1k hk
  refine⟨_,rfl,d,_,rfl,hd,rfl,_,rfl,?_⟩;refine Yv (fun h0=>?_) (fun h0=>?_)
  ·have h0:=V.int.inj (of_decide_eq_true h0);have e:WB n (Zn r u)=[]:=Y1p.mp (by rw[<-hp.length_eq];omega);refine⟨by show 1<=sizeLine;decide,fun l hl=>k _ l (Z4 s1 (s1.free hl)) (s1.free hl) ?_⟩;unfold XJ;rw[if_pos e,Z2];rfl
  ·have h0:¬ (V.int (kvs.length:Int)=V.int 0):=fun z=>h0 (decide_eq_true z);have e:¬ WB n (Zn r u)=[]:=fun z=>h0 (by
    have:=hp.length_eq
    rw[z,Y28]at this
    congr 1;omega)
   refine⟨_,rfl,d,_,rfl,.inr (.inr ⟨kvs,hd,hk⟩),by omega,fun l S hl pS sS=>?_⟩;have eS:S=WB n (Zn r u):=Z2B (pS.trans hp) sS Z5f;subst eS;refine k _ l (Z4 s1 (s1.free hl)) (s1.free hl) ?_;unfold XJ;rw[if_neg e,Z2]
end
def spRs:Sp:=fun vs H Q _=>∃ (a:Addr) (n:Nat) (r u:List Nat),vs=[.ref a]/\ZN H a r u/\Row n r/\n<=36/\
 ∀ (H':Hp) (l:Addr) (as:List Addr),Z7 H H'->H l=none->H' l=some (.lst (rv as))->(∀ a∈as,H a=none)->Zb H' as (Zp n r)->Q (.ref l) H'
section
variable {P:Program}{w:World}{K:Y00}{mg:Str->Option Value}{base:Heap}
noncomputable abbrev n_rs:List Str:=["sheet"]
theorem Zjy:ZO n_rs ["sheet"] (Z0 T2):=⟨rfl,rfl,rfl,by decide +kernel,rfl,by decide +kernel,by decide +kernel⟩
theorem ZiD {f fc:Addr}{fd dc:FuncData}(F:Fn K mg "rows" T2 ["sheet"] f fd)(FC:Fn K mg "cycles" XF ["row"] fc dc)(GC:Z6 P w K mg base CX0 2 fc dc ["row"] (UK K)):Z6 P w K mg base CX0 3 f fd ["sheet"] spRs:=by
 refine F.F.ok Zjy (fun vs H Q E h=>?_) (fun cdv A outer s H vs Q E hr h=>?_)
 ·obtain⟨a,n,r,u,rfl,_⟩:=h;rfl
 ·obtain⟨a,n,r,u,rfl,⟨p,q,h1,h2,h3⟩,rr,hn,k⟩:=h;have hr1:ZR 1 _:=hr.mono (by decide);refine⟨_,(Z1 (ZS (ZU GC hr rfl FC.m FC.F.kp FC.b .nil ZX (Z9 (ZY ZA (pv 0) Z3 (fun _ _=>rfl)) Z8)))),?_⟩;exact⟨_,rfl,a,_,0,_,rfl,rfl,SqT.of h1,ZV (j:=0) rfl,p,n,r,rfl,.inr (SqT.of h2),rr,hn,fun H' l as s' f1 hl f2 hL=>k H' l as s' f1 hl f2 hL⟩
end
def Z87:Sp:=fun vs H Q _=>∃ (a:Addr) (n:Nat) (r u:List Nat),vs=[.ref a]/\ZN H a r u/\Row n r/\Row n u/\n<=36/\
 ∀ (H':Hp) (l:Addr) (as:List Addr) (bs:List Bd),Z7 H H'->H l=none->H' l=some (.lst (as.map V.ref))->Zc H' as bs->bs.Perm (X0 n r u (XJ n (Zn r u)))->Ur bs->Q (.ref l) H'
section
variable {P:Program}{w:World}{K:Y00}{mg:Str->Option Value}{base:Heap}
noncomputable abbrev n_bs:List Str:=["sheet","edge"]
theorem ZfN:ZO n_bs ["sheet"] (Z0 WX):=⟨rfl,rfl,rfl,by decide +kernel,rfl,by decide +kernel,by decide +kernel⟩
theorem Zib:(["row","sheet","edge"]:List Str).Nodup:=by decide +kernel
theorem Ziu {f fe fr fh ff:Addr}{fd de dr dh df:FuncData}(T:Bi mg)(F:Fn K mg "bands" WX ["sheet"] f fd)(FE:Fn K mg "borders" UT ["sheet"] fe de)(GE:Z6 P w K mg base CX0 8 fe de ["sheet"] Z6N)
  (FR:Fn K mg "rows" T2 ["sheet"] fr dr) (GR:Z6 P w K mg base CX0 3 fr dr ["sheet"] spRs)
  (FH:Fn K mg "has_some" WC ["edge","squares"] fh dh) (GH:Z6 P w K mg base CX0 1 fh dh ["edge","squares"] Si)
  (FF:Fn K mg "band_from" V2 ["sheet","edge","lowest"] ff df) (GF:Z6 P w K mg base CX0 2 ff df ["sheet","edge","lowest"] Zi5):Z6 P w K mg base CX0 9 f fd ["sheet"] Z87:=by
 refine F.F.ok ZfN (fun vs H Q E h=>?_) (fun cdv A outer s H vs Q E hr h=>?_)
 ·obtain⟨a,n,r,u,rfl,_⟩:=h;rfl
 ·obtain⟨a,n,r,u,rfl,hsh,rr,ru,hn,k⟩:=h;have hu10:(A.deeper (PyProof.Rows.envOfC "bands" (Z0 WX) s.heap.objs.size f cdv)).units+10<cLine:=Y2f (Y3v (by decide) _) hr.units;have hr1:ZR 1 _:=hr.mono (by decide);have hr2:ZR 2 _:=hr.mono (by decide);have hr3:ZR 3 _:=hr.mono (by decide);have hr8:ZR 8 _:=hr.mono (by decide);refine⟨_,(Z5 (ZP (i:=1) ZfN.nd rfl (Or.inr rfl) (ZU GE hr8 rfl FE.m FE.F.kp FE.b .nil ZX (Z9 (pv 0) Z8)))
   (Z1 (ZS (ZF (Z7v rfl hu10) rfl T.sorted V7 (Z9 (Z7o (N:=n_bs) (names:=(Z0 WX).names) (N':=["row","sheet","edge"]) (k:=1) (pull:=[0,1]) (tt:=tB (Yz Si [] E0 (ZM (ZW 2) (ZM (ZW 0) Zx)))) (te:=Yz Zi5 [] E0 (ZM (ZW 1) (ZM (ZW 2) (ZM (ZW 0) Zx)))) rfl ⟨by rfl,by decide +kernel,by decide +kernel,by rfl,by decide +kernel,by decide +kernel⟩ rfl rfl (Y5 (ZU GR hr3 rfl FR.m FR.F.kp FR.b .nil ZX (Z9 (pv 0) Z8))) (fun _ _ _ _ _ _=>ZE (i:=0) Zib rfl (Or.inl rfl)) (fun _ _ _ _ _ _=>YW (ZU GH hr1 rfl FH.m FH.F.kp FH.b .nil ZX (Z9 (pv 2) (Z9 (pv 0) Z8)))) (fun _ _ _ _ _ _=>ZU GF hr2 rfl FF.m FF.F.kp FF.b .nil ZX (Z9 (pv 1) (Z9 (pv 2) (Z9 (pv 0) Z8))))) Z8))))),?_⟩
  refine⟨_,rfl,a,n,r,u,rfl,hsh,rr,ru,hn,fun H1 le s1 hle0 hle=>?_⟩;generalize hMe:XJ n (Zn r u)=M at *;dsimp only [ZC,Xs,tCB,ZM,Zx];refine Zft (fun H2 b=>Z7 H1 H2/\∃ rs,H2 b=some (.lst (rv rs))/\Zb H2 rs (Zp n r)) (fun R hR=>⟨_,rfl,a,n,r,u,rfl,hsh.same s1,rr,hn,fun H2 l as s2 f2 hl fr hL=>hR H2 l ⟨s2,as,hl,hL⟩⟩) ?_;rintro H2 b ⟨s2,rs,hrs,hL⟩;have hrc:(Zp n r).length<=n:=Tp (n:=n) (w:=r) n;have hcl:∀ x,x<n->(cyc n r x).length<=n:=fun x hx=>(YT rr hx).len rr hx;refine Zaa (rest:=[some (.ref a),some (.ref le)]) (Yj M) (ZdN n u M) hrs hL rfl (fun b M' H3 R hM s3 hb hR=>?_) (fun b M' H3 R hM hp s3 hb hR=>?_) (by omega) fun H4 d as s4 hd0 hB hd=>?_
  ·obtain⟨x,hx,hlx,rfl⟩:=WI hM;have:=hcl x hx;exact⟨_,rfl,_,rfl,le,b,M,cyc n r x,rfl,(s2.trans s3) _ _ hle,hb,by omega,fun H' s'=>⟨_,rfl,hR H' s'⟩⟩
  ·obtain⟨x,hx,hlx,rfl⟩:=WI hM;have h1:=hcl x hx;have h2:=(YT rr hx).pos;exact⟨_,rfl,_,rfl,_,rfl,a,le,b,n,r,u,M,cyc n r x,rfl,hsh.same (s1.trans (s2.trans s3)),(s2.trans s3) _ _ hle,hb,ru,fun y hy=>XO rr hx hy,hn,h2,by omega,hp,fun H' y s' hy0 hy=>hR H' y s' hy⟩
  ·have hal:=hB.len;rw[Y05]at hal;have hfl:=Y0u (Yj M) (Zp n r);refine Zcu hd hB (by omega) fun l as' bs' hl0 hB' hp hs=>?_;have sa:=s1.trans (s2.trans s4);exact k _ l as' bs' (Z4 sa (sa.free hl0)) (sa.free hl0) Z2 hB' hp hs
end
end K1
namespace L2
open PySem PySem.Spec PyProof.Rows
section
variable {X:Cx}{e:Expr}{lo hi:Option Expr}{st:Expr}{te:TE}{tl th ts:TO}{p2 pos:Pos}
end
end L2
namespace Sq
open PySem
end Sq
namespace Sq
open PySem L2
noncomputable def btw (b:Nat)(xs:List Nat):List Nat:=b::xs.flatMap fun x=>[sg x,b]
theorem Z67 (b:Nat):∀ xs:List Nat,(xs.flatMap fun x=>[sg x,b]).length=2*xs.length
 | []=>rfl
 | x::xs=>by rw[Y47,Y09,Z67 b xs];show 2+2*xs.length=2*(xs.length+1);omega
theorem Zfi (b:Nat)(xs:List Nat):(btw b xs).length=1+2*xs.length:=by
 show (xs.flatMap _).length+1=_;rw[Z67];omega
end Sq
namespace K1
open PySem L2 Sq
noncomputable abbrev teB9:TE:=tOp (fun x y H Q=>∃ i j,x=.str i/\y=.str j/\i.length+j.length<=sizeLine/\Q (.str (i++j)) H) (tOp Xd (tC (.str SG)) (ZW 0)) (ZW 1)
def ZgS (K:Y00):Sp:=fun vs H Q _=>∃ (b:Nat) (p:Addr) (xs:List Nat),vs=[.str (txt [b]),.ref p]/\H p=some (.lst (nv xs))/\(∀ x∈xs,x<36)/\xs.length<=36/\∀ H':Hp,Z7 H H'->Q (.str (txt (btw b xs))) H'
section
variable {P:Program}{w:World}{K:Y00}{mg:Str->Option Value}{base:Heap}
noncomputable abbrev n_bt:List Str:=["border","squares"]
theorem Zji:ZO n_bt ["border","squares"] (Z0 VX):=⟨rfl,rfl,rfl,by decide +kernel,rfl,by decide +kernel,by decide +kernel⟩
theorem Zi6:(["square","border"]:List Str).Nodup:=by decide +kernel
theorem ZiU {f:Addr}{fd:FuncData}{tS:Tok}(w2a:mg "SIGNS"=some (.str SG tS))(F:Fn K mg "between" VX ["border","squares"] f fd):Z6 P w K mg base CX0 1 f fd ["border","squares"] (ZgS K):=by
 refine F.F.ok Zji (fun vs H Q E h=>?_) (fun cdv A outer s H vs Q E hr h=>?_)
 ·obtain⟨b,p,xs,rfl,_⟩:=h;rfl
 ·obtain⟨b,p,xs,rfl,hp,hlt,hn,k⟩:=h;have big:1000<=sizeLine:=by decide
  refine⟨_,Z1 (ZS (ZJ YI (pv 0) (Zg PySem.F.plainAttrs_str PySem.F.slot_str_join PySem.F.type_str_join Xj ZH (Z9 (Y6 (N:=n_bt) (names:=(Z0 VX).names) (N':=["square","border"]) (k:=1) (pull:=[0]) (te:=teB9) rfl ⟨by rfl,by decide +kernel,by decide +kernel,by rfl,by decide +kernel,by decide +kernel⟩ rfl rfl (Y5 (pv 1)) (fun _ _ _ _ _ _=>ZE (i:=0) Zi6 rfl (Or.inl rfl)) (fun _ _ _ _ _ _=>ZJ YI (ZY Vt (X6 (v:=.str SG) (by rfl) w2a ⟨_,rfl⟩) (pv 0) (fun _ _=>rfl)) (pv 1))) Z8)))),?_⟩;refine⟨_,rfl,rfl,?_⟩;dsimp only [ZM,Zx];refine⟨_,rfl,p,rfl,⟨_,SqL.of hp⟩,fun d hd=>?_⟩;refine YR (Q:=fun d H'=>WV K (.str (Str.ofString "")) [.ref d] H' _) xs.length ((xs.map fun x=>[sg x,b]).map fun z=>V.str (txt z)) (by simp) (fun i σ H3=>∃ o,σ=[o,some (.str (txt [b]))]/\Z7 H H3) ⟨_,rfl,Z4 (Z7.refl _) hd⟩ ?_ ?_
  ·rintro i σ H3 hi ⟨o,rfl,s3⟩ hd3;have hp3:=SqL.of (K:=K) (s3 _ _ hp);have hg:=Zy (Y01 hi);refine⟨⟨_,_,hp3,hg⟩,fun y H4 ⟨e,hy⟩=>?_⟩;subst e;have hy:=hy _ hp3;rw[hg]at hy;cases hy;refine⟨_,rfl,SG,_,sg xs[i],rfl,rfl,by rw[Wp];omega,SQ (hlt _ (Y15 hi)),_,rfl,_,_,rfl,rfl,by show 1+1<=_;omega,?_⟩;refine YN hi (by omega) hd3 ?_ ⟨_,rfl,Z4 s3 hd⟩;rw[UD,Zh];simp[hi]
  ·rintro σ H3 ⟨o,rfl,s3⟩ hd3;refine⟨⟨_,SqL.of (s3 _ _ hp),by rw[ZQ];exact Y04 _⟩,?_⟩;have hfl:(xs.map fun x=>[sg x,b]).flatten=xs.flatMap fun x=>[sg x,b]:=(by rw[List.flatMap_def]);refine⟨_,d,(xs.map fun x=>[sg x,b]).map txt,rfl,rfl,.inl (SqL.of (by rw[hd3];simp[Y2b,Function.comp_def])),?_,?_⟩
   ·have e0:(Str.ofString "").length=0:=(by decide);rw[e0,Nat.mul_zero,Nat.add_zero];have e1:((((xs.map fun x=>[sg x,b]).map txt).map (·.length)).sum)=2*xs.length:=by
     clear hd3 hd hp hlt hn hfl k
     induction xs with
     | nil=>rfl
     | cons a xs ih=>rw[Y0w,Y0w,Y0w,List.sum_cons,ih,ZD];show 2+2*xs.length=2*(xs.length+1);omega
    rw[e1];omega
   ·rw[VT,Z8A,hfl];refine⟨_,_,rfl,rfl,by rw[ZD,ZD,Z67];show 1+_<=_;omega,?_⟩;rw[Zh];exact k H3 s3
end
theorem Z6j:∀ xs:List Nat,PyData.depthAll (nd xs)=0
 | []=>rfl
 | x::xs=>by show max 0 (PyData.depthAll (nd xs))=0;rw[Z6j xs];rfl
theorem Zdx (r u:List Nat):(sd r u).depth<=64:=by
 show max (PyData.depthAll (nd r)+1) (max (PyData.depthAll (nd u)+1) 0)+1<=64;rw[Z6j,Z6j];decide
theorem Ze5 {A:Around}{k:Nat}(hr:ZR k A){d e:PyData}(h:d.depth<=64):A.units+min d.depth e.depth<cLine:=
 Y2f (Y3v (Y1c (Nat.min_le_left _ _) h) _) hr.units
def But (l:Addr)(H H':Hp):Prop:=∀ b o,b≠l->H b=some o->H' b=some o
noncomputable def drM (u:List Nat)(Ms:List (List Nat)):List (List Nat):=Ms.flatMap fun M=>[btw 32 (M.map (nx u)),btw 124 M]
theorem Uk:(Str.ofString "|")=txt [124]:=by decide +kernel
noncomputable def tvs (zs:List (List Nat)):List V:=zs.map fun z=>V.str (txt z)
theorem Z96 {H:Hp}:∀ {as:List Addr} {Ms:List (List Nat)},Zb H as Ms->as.length=Ms.length
 | [],[],_=>rfl
 | [],_::_,h=>h.elim
 | _::_,[],h=>h.elim
 | _::as,_::Ms,h=>by rw[Y0f,Y0f,Z96 h.2]
theorem Zc4 {H:Hp}:∀ {as:List Addr} {Ms:List (List Nat)} {i:Nat} {b:Addr},Zb H as Ms->as[i]?=some b->∃ M,Ms[i]?=some M/\H b=some (.lst (nv M))
 | [],[],_,_,_,h=>by simp at h
 | [],_::_,_,_,h,_=>h.elim
 | _::_,[],_,_,h,_=>h.elim
 | a::as,M::Ms,0,b,h,e=>by cases e;exact⟨M,rfl,h.1⟩
 | a::as,M::Ms,i+1,b,h,e=>by
  rw[Y4b]at e;obtain⟨M',h1,h2⟩:=Zc4 (i:=i) h.2 e;exact⟨M',by rw[Y4b];exact h1,h2⟩
def ZhF (K:Y00):Sp:=fun vs H Q _=>∃ (a:Addr) (n:Nat) (r u:List Nat),vs=[.ref a]/\ZN H a r u/\Row n r/\Row n u/\n<=36/\∀ (H':Hp) (l:Addr),Z7 H H'->H l=none->H' l=some (.lst (tvs (drM u (Zp n r))))->Q (.ref l) H'
section
variable {P:Program}{w:World}{K:Y00}{mg:Str->Option Value}{base:Heap}
noncomputable abbrev ZgJ:List Str:=["sheet","texts","row"]
theorem Zau:ZO ZgJ ["sheet"] (Z0 Vs):=⟨rfl,rfl,rfl,by decide +kernel,rfl,by decide +kernel,by decide +kernel⟩
theorem Zge:(["square","sheet"]:List Str).Nodup:=by decide +kernel
set_option maxHeartbeats 2000000 in
theorem ZhJ {f fy fb:Addr}{fd dy db:FuncData}(F:Fn K mg "drawn" Vs ["sheet"] f fd)(FY:Fn K mg "cycles" XF ["row"] fy dy)(GY:Z6 P w K mg base CX0 2 fy dy ["row"] (UK K))
  (FB:Fn K mg "between" VX ["border","squares"] fb db) (GB:Z6 P w K mg base CX0 1 fb db ["border","squares"] (ZgS K)):Z6 P w K mg base CX0 3 f fd ["sheet"] (ZhF K):=by
 refine F.F.ok Zau (fun vs H Q E h=>?_) (fun cdv A outer s H vs Q E hr h=>?_)
 ·obtain⟨a,n,r,u,rfl,_⟩:=h;rfl
 ·obtain⟨a,n,r,u,rfl,hsh,rr,ru,hn,k⟩:=h;have hr1:ZR 1 _:=hr.mono (by decide);have hr2:ZR 2 _:=hr.mono (by decide);refine⟨_,(Z5 (ZP (i:=1) Zau.nd rfl (Or.inl rfl) (Y8 Z8))
   (Z5 (YQ PassesOwn.never rfl (Y5 (ZU GY hr2 rfl FY.m FY.F.kp FY.b .nil ZX (Z9 (ZY ZA (pv 0) Z3 (fun _ _=>rfl)) Z8))) (ZE (i:=2) Zau.nd rfl (Or.inl rfl)) (Z5 (Y3 (Zg PySem.F.plainAttrs_list PySem.F.slot_list_append PySem.F.type_list_append YU (pv 1) (Z9 (ZU GB hr1 rfl FB.m FB.F.kp FB.b .nil ZX (Z9 ZH (Z9 (Y6 (N:=ZgJ) (names:=(Z0 Vs).names) (N':=["square","sheet"]) (k:=1) (pull:=[0]) (te:=tOp (Yp K) (tOp (Yp K) (ZW 1) (tC (.int 1))) (ZW 0)) rfl ⟨by rfl,by decide +kernel,by decide +kernel,by rfl,by decide +kernel,by decide +kernel⟩ rfl rfl (Y5 (pv 2)) (fun _ _ _ _ _ _=>ZE (i:=0) Zge rfl (Or.inl rfl)) (fun _ _ _ _ _ _=>ZY ZA (ZY ZA (pv 1) Z3 (fun _ _=>rfl)) (pv 0) (fun _ _=>rfl))) Z8))) Z8)))
   (Z1 (Y3 (Zg PySem.F.plainAttrs_list PySem.F.slot_list_append PySem.F.type_list_append YU (pv 1) (Z9 (ZU GB hr1 rfl FB.m FB.F.kp FB.b .nil ZX (Z9 ZH (Z9 (pv 2) Z8))) Z8))))))
   (Z1 (ZS (pv 1))))),?_⟩
  obtain⟨p,q,h1,h2,h3⟩:=id hsh;refine⟨Y0y _,fun l hl=>?_⟩;have s1:Z7 H (upd H l (.lst [])):=Z4 (Z7.refl H) hl;have e1:(upd H l (.lst [])) l=some (.lst []):=Z2;revert s1 e1;generalize (upd H l (.lst []))=H1;intro s1 e1;dsimp only [Yh,Xv,ZC];refine⟨_,rfl,a,_,0,_,rfl,rfl,SqT.of (s1 _ _ h1),ZV (j:=0) rfl,p,n,r,rfl,.inr (SqT.of (s1 _ _ h2)),rr,hn,fun H2 lc as s2 hlc0 hlc has hL=>?_⟩;have e2:=s2 _ _ e1;have nlc:lc≠l:=fun e=>by rw[e,e1]at hlc0;cases hlc0
  have nas:∀ c∈as,c≠l:=fun c hc e=>by have:=has c hc;rw[e,e1]at this;cases this
  have nsh:∀ {c:Addr} {o:HO},H c=some o->c≠l:=fun {c o} hc e=>by rw[e,hl]at hc;cases hc
  have hrl:∀ M∈Zp n r,(∀ x∈M,x<n)/\M.length<=36:=fun M hM=>by
   obtain⟨x,hx,rfl⟩:=Y0d.mp hM;have hxn:=Y08.mp (Y0s.mp hx).1;have c:=YT rr hxn;refine⟨fun y hy=>XO rr hxn hy,?_⟩;have:=XE (cyc n r x) (Y03 n) (c.nd rr hxn) fun y hy=>Y08.mpr (XO rr hxn hy);rw[Y0m]at this;omega
  have hM36:(Zp n r).length<=36:=by
   unfold Zp;rw[Y05];have:=Y0u (Zq n r) (Y03 n);rw[Y0m]at this;omega
  revert hL hrl hM36 k;generalize Zp n r=Ms;intro k hL hrl hM36;have hlM:=Z96 hL;refine⟨lc,rfl,⟨_,SqL.of hlc⟩,?_⟩;refine VW (K:=K) (a:=lc) (D:={ nx:=Xs (ZW 1) { nx:=fun _ H'=>Q .non H',rt:=Q },rt:=Q }) (xs:=rv as) (fun i σ H3=>∃ o2,σ=[some (.ref a),some (.ref l),o2]/\But l H2 H3/\H3 l=some (.lst (tvs (drM u (Ms.take i))))) ⟨_,rfl,fun c o _ h=>h,e2⟩ (fun i σ H3 _ ⟨_,_,bt,_⟩=>SqL.of (bt _ _ nlc hlc)) ?_ ?_
  ·rintro i v σ H3 hv ⟨o2,rfl,bt,hl3⟩;unfold rv at hv;rw[Y0l]at hv;obtain⟨b,hb,rfl⟩:=Option.map_eq_some_iff.mp hv;obtain⟨M,hM,hb2⟩:=Zc4 hL hb;have nb:=nas b (Y0o hb);obtain⟨hlt,hlen⟩:=hrl M (Y0o hM);have hi:i<Ms.length:=(Y07.mp hM).1;have sn:drM u (Ms.take (i+1))=drM u (Ms.take i)++[btw 32 (M.map (nx u))]++[btw 124 M]:=by
    unfold drM;rw[Y1v,hM,List.flatMap_append];simp
   have ll:(drM u (Ms.take i)).length<=72:=by
    have:∀ Ns:List (List Nat),(drM u Ns).length=2*Ns.length:=fun Ns=>by
     unfold drM
     induction Ns with
     | nil=>rfl
     | cons N Ns ih=>rw[Y47,Y09,ih];show 2+2*Ns.length=2*(Ns.length+1);omega
    rw[this,Y1m];omega
   rw[sn];revert hl3 ll;generalize drM u (Ms.take i)=zs;intro hl3 ll;have kp:∀ {c:Addr} {o:HO},H c=some o->H3 c=some o:=fun {c o} hc=>bt _ _ (nsh hc) (s2 _ _ (s1 _ _ hc));have hb3:=bt _ _ nb hb2;refine⟨_,rfl,.inl ⟨rfl,_,SqL.of hl3⟩,?_⟩;dsimp only [ZM,Zx,Yz,tC];refine Z8s (r:=M) (fun x=>nx u x) rfl hb3 rfl (fun z Hz R hz sz hR=>⟨_,rfl,a,_,1,_,rfl,rfl,SqT.of (sz _ _ (kp h1)),ZV (j:=1) rfl,_,rfl,q,_,z,_,rfl,rfl,SqT.of (sz _ _ (kp h3)),ZV (Zy (ru.get (hlt z hz))),hR⟩) (by omega) fun H4 d s4 hd0 hd=>?_;refine⟨32,d,M.map (nx u),by rw[<-YD];rfl,hd,fun x hx=>?_,by rw[Y05];exact hlen,fun H5 s5=>?_⟩
   ·obtain⟨y,hy,rfl⟩:=Y0d.mp hx;exact Y0i (ru.nlt (hlt y hy)) hn
   have s45:=s4.trans s5;have tl:∀ zs:List (List Nat),(tvs zs).length=zs.length:=fun zs=>by simp[tvs]
   refine⟨l,_,_,rfl,rfl,s45 _ _ hl3,by rw[tl];exact Zj (by omega),?_⟩;have l6:(upd H5 l (.lst (tvs zs++[.str (txt (btw 32 (M.map (nx u))))]))) l=some (.lst (tvs (zs++[btw 32 (M.map (nx u))]))):=(by rw[Z2];simp[tvs]);have b6:But l H3 (upd H5 l (.lst (tvs zs++[.str (txt (btw 32 (M.map (nx u))))]))):=fun c o hc h=>by rw[ZZ hc];exact s45 _ _ h
   revert l6 b6;generalize (upd H5 l (.lst (tvs zs++[.str (txt (btw 32 (M.map (nx u))))])))=H6;intro l6 b6;refine⟨_,rfl,.inl ⟨rfl,_,SqL.of l6⟩,_,rfl,124,b,M,by rw[<-Uk];rfl,b6 _ _ nb hb3,fun x hx=>Y0i (hlt x hx) hn,hlen,fun H7 s7=>?_⟩;refine⟨l,_,_,rfl,rfl,s7 _ _ l6,by rw[tl,Y09];exact Zj (by show _+1<=1000;omega),?_⟩;refine⟨_,rfl,fun c o hc h=>?_,?_⟩
   ·rw[ZZ hc];exact s7 _ _ (b6 _ _ hc (bt _ _ hc h))
   ·rw[Z2];simp[tvs]
  ·rintro σ H3 ⟨o2,rfl,bt,hl3⟩;rw[XY,hlM,Y2a]at hl3;refine⟨_,rfl,k H3 l (fun c o hc=>bt _ _ (nsh hc) (s2 _ _ (s1 _ _ hc))) hl hl3⟩
end
noncomputable def wT:Nat->Str
 | 0=>"turns"
 | 1=>"counts"
 | 2=>"draw"
 | _=>"bands"
theorem Z5V {n:Nat}{r u M:List Nat}(rr:Row n r)(hn:n<=36){b:Bd}(h:b∈X0 n r u M):Wc b:=by
 obtain⟨S,hS,rfl⟩:=Y0d.mp h;obtain⟨x,hx,_,rfl⟩:=WI (Y0s.mp hS).1;have h1:=(YT rr hx).len rr hx;have h2:=Y0u (VE M (cyc n r x) (ups u (cyc n r x) (wid n u M (cyc n r x)))) (Y03 (cyc n r x).length);rw[Y0m]at h2;refine⟨?_,?_,?_,fun y hy=>?_⟩
 ·show (cyc n r x).length<=999;omega
 ·show ((Y03 n).find? _).getD 0+1<=999;cases e:(Y03 n).find? fun k=>Yj M (ups u (cyc n r x) (k+1)) with
  | none=>decide
  | some k=>
   have:=Y08.mp (Y44 e);show k+1<=999;omega
 ·show ((Y03 _).filter _).length<=100;omega
 ·have:=Y08.mp (Y0s.mp hy).1;omega
def Due (n:Nat)(r u:List Nat):Nat->List (List Nat)->Prop
 | 0,zs=>∃ S:List Nat,S.Perm ((Zp n (Zn r u)).map Y1k)/\S.Pairwise (·<=·)/\zs=[Yk 32 (S.map fun x:Nat=>(x:Int))]
 | 1,zs=>zs=[Yk 32 [(pts n r u:Int),2*(n:Int),(n:Int),(2-(pts n r u:Int)+2*(n:Int)-(n:Int))/2]]
 | 2,zs=>zs=drM u (Zp n r)
 | _,zs=>∃ bs:List Bd,bs.Perm (X0 n r u (XJ n (Zn r u)))/\Ur bs/\zs=bs.map XM
theorem Due.uniq {n:Nat}{r u:List Nat}{j:Nat}{x y:List (List Nat)}(hx:Due n r u j x)(hy:Due n r u j y):x=y:=by
 match j,hx,hy with
 | 0,⟨S,p,s,e⟩,⟨S',p',s',e'⟩=>
  have:S=S':=List.Perm.eq_of_pairwise (fun a b _ _ x y=>Nat.le_antisymm x y) s s' (p.trans p'.symm);rw[e,e',this]
 | 1,hx,hy=>exact Eq.trans hx (Eq.symm hy)
 | 2,hx,hy=>exact Eq.trans hx (Eq.symm hy)
 | _+3,⟨S,p,s,e⟩,⟨S',p',s',e'⟩=>rw[e,e',Z5x (p.trans p'.symm) s s']
def spAn:Sp:=fun vs H Q _=>∃ (a l:Addr) (n:Nat) (r u:List Nat) (j:Nat) (rest:List V),vs=[.ref a,.ref l]/\ZN H a r u/\Row n r/\Row n u/\n<=36/\1<=n/\j<4/\H l=some (.lst (.str (wT j)::rest))/\
 ∀ (H':Hp) (d:Addr) (zs:List (List Nat)),Z7 H H'->H d=none->H' d=some (.lst (sv zs))->Due n r u j zs->Q (.ref d) H'
theorem Z5H {n:Nat}{w:List Nat}(rr:Row n w)(hn:n<=36):∀ x∈((Zp n w).map Y1k).map (fun x:Nat=>(x:Int)),x.natAbs<=1000:=by
 intro x hx;obtain⟨y,hy,rfl⟩:=Y0d.mp hx;obtain⟨M,hM,rfl⟩:=Y0d.mp hy;obtain⟨z,hz,_,rfl⟩:=WI hM;have h1:=(YT rr hz).len rr hz;omega
section
variable {P:Program}{w:World}{K:Y00}{mg:Str->Option Value}{base:Heap}
noncomputable abbrev n_an:List Str:=["sheet","asked","word"]
theorem ZhK:ZO n_an ["sheet","asked"] (Z0 VO):=⟨rfl,rfl,rfl,by decide +kernel,rfl,by decide +kernel,by decide +kernel⟩
theorem ZiX:(["band"]:List Str).Nodup:=by decide +kernel
set_option maxHeartbeats 2000000 in
theorem Zik {f fn fu fc fb ft fe:Addr}{fd dn du dc db dt de:FuncData}(FN:Fn K mg "numbers_text" WL ["numbers","sign"] fn dn)(GN:Z6 P w K mg base CX0 1 fn dn ["numbers","sign"] (Zjg K))(FU:Fn K mg "turns" VB ["sheet"] fu du)(GU:Z6 P w K mg base CX0 7 fu du ["sheet"] Zbh)(FC:Fn K mg "counts" UB ["sheet"] fc dc)(GC:Z6 P w K mg base CX0 7 fc dc ["sheet"] Z8K)(FB:Fn K mg "bands" WX ["sheet"] fb db)(GB:Z6 P w K mg base CX0 9 fb db ["sheet"] Z87)(FT:Fn K mg "band_text" UV ["band"] ft dt)(GT:Z6 P w K mg base CX0 2 ft dt ["band"] Zi3)(FD:Fn K mg "drawn" Vs ["sheet"] fe de)(GD:Z6 P w K mg base CX0 3 fe de ["sheet"] (ZhF K))(F:Fn K mg "answer" VO ["sheet","asked"] f fd):Z6 P w K mg base CX0 10 f fd ["sheet","asked"] spAn:=by
 refine F.F.ok ZhK (fun vs H Q E h=>?_) (fun cdv A outer s H vs Q E hr h=>?_)
 ·obtain⟨a,l,n,r,u,j,rest,rfl,_⟩:=h;rfl
 ·obtain⟨a,l,n,r,u,j,rest,rfl,hsh,rr,ru,hn,h1n,hj,hl,k⟩:=h;have hr1:ZR 1 _:=hr.mono (by decide);have hr2:ZR 2 _:=hr.mono (by decide);have hr3:ZR 3 _:=hr.mono (by decide);have hr7:ZR 7 _:=hr.mono (by decide);have hr9:ZR 9 _:=hr.mono (by decide);have one:1<=sizeLine:=by decide
  have rl:=WG rr ru;refine⟨_,(Z5 (ZP (i:=2) ZhK.nd rfl (Or.inl rfl) (ZY Zs (pv 1) Z3 (fun _ _=>rfl)))
   (Z5 (Zu (Zt Ze (pv 2) ZH (Zw _)) Yf Zr)
   (Z5 (Zu (Zt Ze (pv 2) ZH (Zw _)) (Z1 (ZS (Y8 (Z9 (ZU GN hr1 rfl FN.m FN.F.kp FN.b .nil ZX (Z9 (ZU GU hr7 rfl FU.m FU.F.kp FU.b .nil ZX (Z9 (pv 0) Z8)) (Z9 ZH Z8))) Z8)))) Zr)
   (Z5 (Zu (Zt Ze (pv 2) ZH (Zw _)) (Z1 (ZS (Y8 (Z9 (ZU GN hr1 rfl FN.m FN.F.kp FN.b .nil ZX (Z9 (ZU GC hr7 rfl FC.m FC.F.kp FC.b .nil ZX (Z9 (pv 0) Z8)) (Z9 ZH Z8))) Z8)))) Zr)
   (Z5 (Zu (Zt Ze (pv 2) ZH (Zw _)) (Z1 (ZS (Y6 (N:=n_an) (names:=(Z0 VO).names) (N':=["band"]) (k:=1) (pull:=[]) (te:=Yz Zi3 [] E0 (ZM (ZW 0) Zx)) rfl ⟨by rfl,by decide +kernel,by decide +kernel,by rfl,by decide +kernel,by decide +kernel⟩ rfl rfl (Y5 (ZU GB hr9 rfl FB.m FB.F.kp FB.b .nil ZX (Z9 (pv 0) Z8))) (fun _ _ _ _ _ _=>ZE (i:=0) ZiX rfl (Or.inl rfl)) (fun _ _ _ _ _ _=>(ZU GT hr2 rfl FT.m FT.F.kp FT.b .nil ZX (Z9 (pv 0) Z8)))))) Zr)
   (Z5 (Zu (Zt Ze (pv 2) ZH (Zw _)) Yf Zr)
   (Z5 (Zu (Zt Ze (pv 2) ZH (Zw _)) (Z1 (ZS (ZU GD hr3 rfl FD.m FD.F.kp FD.b .nil ZX (Z9 (pv 0) Z8)))) Zr)
   Yf))))))),?_⟩
  refine⟨_,rfl,l,_,0,_,rfl,rfl,SqL.of hl,ZV (j:=0) rfl,?_⟩;dsimp only [ZC]
  match j,hj with
  | 0,_=>
   refine⟨_,rfl,rfl,_,rfl,?_⟩;rw[show decide (V.str (wT 0)=V.str (Str.ofString "form"))=false from vne (by decide +kernel)];refine ZG ⟨_,rfl,rfl,_,rfl,?_⟩;rw[show decide (V.str (wT 0)=V.str (Str.ofString "turns"))=true from veq _];refine Zo ⟨_,rfl,a,n,r,u,rfl,hsh,rr,ru,hn,fun H1 l1 S s1 hl0 hl1 hp hs=>?_⟩;have hlen:=hp.length_eq;rw[Y05]at hlen;have hRl:=V6 n (Zn r u);refine⟨l1,S.map fun x:Nat=>(x:Int),32,by rw[YD];rfl,.inr (SqL.of (by rw[<-Ud];exact hl1)),fun x hx=>Z5H rl hn x ((hp.map _).mem_iff.mp hx),by rw[Y05];omega,fun H2 s2=>?_⟩;refine⟨one,fun d hd=>?_⟩;have sA:=s1.trans s2;exact k _ d _ (Z4 sA (sA.free hd)) (sA.free hd) Z2 ⟨S,hp,hs,rfl⟩
  | 1,_=>
   refine⟨_,rfl,rfl,_,rfl,?_⟩;rw[show decide (V.str (wT 1)=V.str (Str.ofString "form"))=false from vne (by decide +kernel)];refine ZG ⟨_,rfl,rfl,_,rfl,?_⟩;rw[show decide (V.str (wT 1)=V.str (Str.ofString "turns"))=false from vne (by decide +kernel)];refine ZG ⟨_,rfl,rfl,_,rfl,?_⟩;rw[show decide (V.str (wT 1)=V.str (Str.ofString "counts"))=true from veq _];refine Zo ⟨_,rfl,a,n,r,u,rfl,hsh,rr,ru,hn,fun H1 t s1 ht=>?_⟩;have hp:pts n r u<=n:=(by unfold pts;exact V6 n (Zn r u));refine⟨t,[(pts n r u:Int),2*(n:Int),(n:Int),(2-(pts n r u:Int)+2*(n:Int)-(n:Int))/2],32,by rw[YD];rfl,.inl (SqT.of ht),fun x hx=>?_,(by show 4<=1000;decide),fun H2 s2=>?_⟩
   ·simp only[Y0k,Y3o,or_false]at hx;rcases hx with rfl|rfl|rfl|rfl<;>omega
   refine⟨one,fun d hd=>?_⟩;have sA:=s1.trans s2;exact k _ d _ (Z4 sA (sA.free hd)) (sA.free hd) Z2 rfl
  | 2,_=>
   refine⟨_,rfl,rfl,_,rfl,?_⟩;rw[show decide (V.str (wT 2)=V.str (Str.ofString "form"))=false from vne (by decide +kernel)];refine ZG ⟨_,rfl,rfl,_,rfl,?_⟩;rw[show decide (V.str (wT 2)=V.str (Str.ofString "turns"))=false from vne (by decide +kernel)];refine ZG ⟨_,rfl,rfl,_,rfl,?_⟩;rw[show decide (V.str (wT 2)=V.str (Str.ofString "counts"))=false from vne (by decide +kernel)];refine ZG ⟨_,rfl,rfl,_,rfl,?_⟩;rw[show decide (V.str (wT 2)=V.str (Str.ofString "bands"))=false from vne (by decide +kernel)];refine ZG ⟨_,rfl,rfl,_,rfl,?_⟩;rw[show decide (V.str (wT 2)=V.str (Str.ofString "along"))=false from vne (by decide +kernel)];refine ZG ⟨_,rfl,rfl,_,rfl,?_⟩;rw[show decide (V.str (wT 2)=V.str (Str.ofString "draw"))=true from veq _];refine Zo ⟨_,rfl,a,n,r,u,rfl,hsh,rr,ru,hn,fun H1 l1 s1 hl0 hl1=>?_⟩;exact k H1 l1 _ s1 hl0 hl1 rfl
  | 3,_=>
   refine⟨_,rfl,rfl,_,rfl,?_⟩;rw[show decide (V.str (wT 3)=V.str (Str.ofString "form"))=false from vne (by decide +kernel)];refine ZG ⟨_,rfl,rfl,_,rfl,?_⟩;rw[show decide (V.str (wT 3)=V.str (Str.ofString "turns"))=false from vne (by decide +kernel)];refine ZG ⟨_,rfl,rfl,_,rfl,?_⟩;rw[show decide (V.str (wT 3)=V.str (Str.ofString "counts"))=false from vne (by decide +kernel)];refine ZG ⟨_,rfl,rfl,_,rfl,?_⟩;rw[show decide (V.str (wT 3)=V.str (Str.ofString "bands"))=true from veq _];refine Zo ?_;refine⟨_,rfl,a,n,r,u,rfl,hsh,rr,ru,hn,fun H1 l1 as bs s1 hl0 hl1 hB hp hs=>?_⟩;have hbl:bs.length<=36:=by
    have e1:=hp.length_eq;have e2:(X0 n r u (XJ n (Zn r u))).length<=n:=by
     unfold X0;rw[Y05];exact Y1c (Y0u _ _) (Tp (n:=n) (w:=r) n)
    omega
   have hal:=hB.len;refine⟨l1,rfl,⟨_,SqL.of hl1⟩,fun d hd=>?_⟩;refine YR (Q:=fun d H'=>Q (.ref d) H') bs.length (sv (bs.map XM)) (by rw[XB,Y05]) (fun i σ H3=>∃ o,σ=[o]/\Z7 H1 H3) ⟨none,rfl,Z4 (Z7.refl _) hd⟩ ?_ ?_
   ·rintro i σ H3 hi ⟨o,rfl,s3⟩ hd3;have hi':i<as.length:=(by omega);have ha:as[i]?=some as[i]:=Y01 hi';obtain⟨bd,hbd,hA⟩:=(hB.same s3).get ha;have hl3:=SqL.of (K:=K) (s3 _ _ hl1);have hg:(as.map V.ref)[i]?=some (.ref as[i]):=(by rw[Y0l,ha];rfl);refine⟨⟨_,_,hl3,hg⟩,fun y H4 ⟨e,hy⟩=>?_⟩;subst e;have hy:=hy _ hl3;rw[hg]at hy;cases hy;have hmem:bd∈X0 n r u (XJ n (Zn r u)):=hp.mem_iff.mp (Y0o hbd);refine⟨_,rfl,as[i],bd,rfl,hA,Z5V rr hn hmem,fun H5 s5=>?_⟩;refine YN hi (by omega) (s5 _ _ hd3) (Zaf (by rw[Y0l,hbd];rfl)) ⟨_,rfl,Z4 (s3.trans s5) hd⟩
   ·rintro σ H3 ⟨o,rfl,s3⟩ hd3;refine⟨⟨_,SqL.of (s3 _ _ hl1),by rw[Y05,hal];exact Y04 _⟩,?_⟩;exact k H3 d _ (s1.trans s3) (s1.free hd) hd3 ⟨bs,hp,hs,rfl⟩
end
noncomputable def sts (p0 p1 p2 p3:Addr):List (Key×V):=[(Sum.inr "r",.ref p0),(Sum.inr "l",.ref p1),(Sum.inr "u",.ref p2),(Sum.inr "d",.ref p3)]
def Zbq:Sp:=fun vs H Q _=>∃ (a:Addr) (n:Nat) (r u:List Nat),vs=[.ref a]/\ZN H a r u/\Row n r/\Row n u/\n<=36/\∀ (H':Hp) (d p0 p1 p2 p3:Addr),Z7 H H'->H d=none->H' d=some (.dK (sts p0 p1 p2 p3))->
 H' p0=some (.tup (nv (rw4 r u 0)))->H' p1=some (.tup (nv (rw4 r u 1)))->H' p2=some (.tup (nv (rw4 r u 2)))->H' p3=some (.tup (nv (rw4 r u 3)))->Q (.ref d) H'
section
variable {P:Program}{w:World}{K:Y00}{mg:Str->Option Value}{base:Heap}
theorem ZeZ:ZO ["rows"] ["rows"] (Z0 Ua):=⟨rfl,rfl,rfl,by decide +kernel,rfl,by decide +kernel,by decide +kernel⟩
theorem ZhD (p0 p1 p2 p3:Addr):Wn [] (sts p0 p1 p2 p3)=sts p0 p1 p2 p3:=by
 have n1:¬ ((Sum.inr ("r":Str):Key)=Sum.inr ("l":Str)):=by decide +kernel
 have n2:¬ ((Sum.inr ("r":Str):Key)=Sum.inr ("u":Str)):=by decide +kernel
 have n3:¬ ((Sum.inr ("r":Str):Key)=Sum.inr ("d":Str)):=by decide +kernel
 have n4:¬ ((Sum.inr ("l":Str):Key)=Sum.inr ("u":Str)):=by decide +kernel
 have n5:¬ ((Sum.inr ("l":Str):Key)=Sum.inr ("d":Str)):=by decide +kernel
 have n6:¬ ((Sum.inr ("u":Str):Key)=Sum.inr ("d":Str)):=by decide +kernel
 show Y1 (Y1 (Y1 (Y1 [] (Sum.inr ("r":Str):Key) (V.ref p0)) (Sum.inr ("l":Str):Key) (V.ref p1)) (Sum.inr ("u":Str):Key) (V.ref p2)) (Sum.inr ("d":Str):Key) (V.ref p3)=_;rw[Xq (kvs:=[]) _ rfl];rw[Xq (k:=(Sum.inr ("l":Str):Key)) _ (by show Zl [((Sum.inr ("r":Str):Key),V.ref p0)] _=none;rw[YH n1];rfl)];rw[Xq (k:=(Sum.inr ("u":Str):Key)) _ (by show Zl [((Sum.inr ("r":Str):Key),V.ref p0),(Sum.inr ("l":Str),V.ref p1)] _=none;rw[YH n2,YH n4];rfl)];rw[Xq (k:=(Sum.inr ("d":Str):Key)) _ (by show Zl [((Sum.inr ("r":Str):Key),V.ref p0),(Sum.inr ("l":Str),V.ref p1),(Sum.inr ("u":Str),V.ref p2)] _=none;rw[YH n3,YH n5,YH n6];rfl)]
 rfl
theorem ZdC {f fb:Addr}{fd fdb:FuncData}(F:Fn K mg "step_rows" Ua ["rows"] f fd)(FB:Fn K mg "back_row" W1 ["row"] fb fdb)(GB:Z6 P w K mg base CX0 1 fb fdb ["row"] UU) :
  Z6 P w K mg base CX0 2 f fd ["rows"] Zbq:=by
 refine F.F.ok ZeZ (fun vs H Q E h=>?_) (fun cdv A outer s H vs Q E hr h=>?_)
 ·obtain⟨a,n,r,u,rfl,_⟩:=h;rfl
 ·obtain⟨a,n,r,u,rfl,⟨p,q,h1,h2,h3⟩,rr,ru,hn,k⟩:=h;refine⟨_,Z1 (ZS (Zaz (UO ZH (ZY ZA (pv 0) Z3 (fun _ _=>rfl)) (UO ZH (ZU GB hr rfl FB.m FB.F.kp FB.b .nil ZX (Z9 (ZY ZA (pv 0) Z3 (fun _ _=>rfl)) Z8))
   (UO ZH (ZY ZA (pv 0) Z3 (fun _ _=>rfl)) (UO ZH (ZU GB hr rfl FB.m FB.F.kp FB.b .nil ZX (Z9 (ZY ZA (pv 0) Z3 (fun _ _=>rfl)) Z8)) Zbk)))) rfl rfl (by simp) (by decide))),?_⟩
  intro d hd;have s0:Z7 H (upd H d (.dK [])):=Z4 (Z7.refl H) hd;refine⟨_,rfl,a,_,0,_,rfl,rfl,SqT.of (s0 _ _ h1),ZV (j:=0) rfl,?_⟩;refine⟨_,rfl,a,_,0,_,rfl,rfl,SqT.of (s0 _ _ h1),ZV (j:=0) rfl,p,n,r,rfl,s0 _ _ h2,rr,hn,fun H1 l1 s1 hl1=>?_⟩;have s01:=s0.trans s1;refine⟨_,rfl,a,_,1,_,rfl,rfl,SqT.of (s01 _ _ h1),ZV (j:=1) rfl,?_⟩;refine⟨_,rfl,a,_,1,_,rfl,rfl,SqT.of (s01 _ _ h1),ZV (j:=1) rfl,q,n,u,rfl,s01 _ _ h3,ru,hn,fun H2 l2 s2 hl2=>?_⟩;have s02:=s01.trans s2;have hd2:H2 d=some (.dK []):=s2 _ _ (s1 _ _ Z2);refine⟨hd2,sts p l1 q l2,rfl,by show 4<=15;decide,?_⟩;rw[ZhD];have ne:∀ b ys,H2 b=some (.tup ys)->(upd H2 d (.dK (sts p l1 q l2))) b=some (.tup ys):=fun b ys e=>by
   rw[ZZ (T7 e hd2 (by intro z;cases z))];exact e
  exact k _ d p l1 q l2 (Z4 s02 hd) hd Z2 (ne _ _ (s02 _ _ h2)) (ne _ _ (s2 _ _ hl1)) (ne _ _ (s02 _ _ h3)) (ne _ _ hl2)
end
noncomputable def SA (c:Nat):Nat:=match c with
 | 0=>114
 | 1=>108
 | 2=>117
 | _=>100
noncomputable def pth (p:List Nat):Str:=⟨(p.map SA).toArray⟩
theorem ZfC:("":Str)=pth []:=by decide +kernel
theorem ltr0:("r":Str)=pth [0]:=by decide +kernel
theorem ltr1:("l":Str)=pth [1]:=by decide +kernel
theorem ltr2:("u":Str)=pth [2]:=by decide +kernel
theorem ltr3:("d":Str)=pth [3]:=by decide +kernel
theorem ZcO (p:List Nat)(c:Nat):pth p++pth [c]=pth (p++[c]):=by
 show Str.mk ((p.map SA).toArray++([c].map SA).toArray)=Str.mk _;simp
theorem Zac (p:List Nat):(pth p).length=p.length:=by
 show (p.map SA).toArray.size=_;simp
theorem Zf3 {p0 p1 p2 p3:Addr}{i:Nat}{k:Key}{v:V}(h:(sts p0 p1 p2 p3)[i]?=some (k,v)):i<4/\k=Sum.inr (pth [i])/\∃ p,v=.ref p/\[p0,p1,p2,p3][i]?=some p:=by
 match i,h with
 | 0,h=>cases h;exact⟨by decide,by rw[<-ltr0],_,rfl,rfl⟩
 | 1,h=>cases h;exact⟨by decide,by rw[<-ltr1],_,rfl,rfl⟩
 | 2,h=>cases h;exact⟨by decide,by rw[<-ltr2],_,rfl,rfl⟩
 | 3,h=>cases h;exact⟨by decide,by rw[<-ltr3],_,rfl,rfl⟩
 | i+4,h=>cases h
noncomputable def pd (F:List Nat)(P:List (List Nat)):List (Key×V):=(F.zip P).map fun xp=>((Sum.inl (xp.1:Int):Key),V.str (pth xp.2))
theorem ZgD {F:List Nat}{P:List (List Nat)}(h:P.length=F.length):(pd F P).length=F.length:=by simp[pd,h]
theorem ZeF {F:List Nat}{P:List (List Nat)}(h:P.length=F.length)(x:Nat)(p:List Nat):pd (F++[x]) (P++[p])=pd F P++[(Sum.inl (x:Int),V.str (pth p))]:=by
 unfold pd;rw[List.zip_append h.symm,Y0t];rfl
theorem Z86:∀ {F:List Nat} {P:List (List Nat)},P.length=F.length->(pd F P).map (·.1)=F.map fun (n:Nat)=>(Sum.inl (n:Int):Key)
 | [],_,_=>rfl
 | x::F,[],h=>by simp at h
 | x::F,p::P,h=>by
  show (Sum.inl (x:Int):Key)::(pd F P).map (·.1)=_;rw[Z86 (by simpa using h)];rfl
theorem Zad {F:List Nat}{P:List (List Nat)}(h:P.length=F.length){y:Nat}(hy:y∉F):Zl (pd F P) (Sum.inl (y:Int):Key)=none:=by
 cases e:Zl (pd F P) (Sum.inl (y:Int):Key) with
 | none=>rfl
 | some v=>
  have:=Z80 e;rw[Z86 h]at this;obtain⟨x,hx,ex⟩:=Y0d.mp this;have:x=y:=by have:=Sum.inl.inj ex;omega
  exact absurd (this ▸ hx) hy
theorem Z7G:∀ {F:List Nat} {P:List (List Nat)},F.Nodup->∀ {i x:Nat} {p:List Nat},F[i]?=some x->P[i]?=some p->Zl (pd F P) (Sum.inl (x:Int):Key)=some (.str (pth p))
 | [],_,_,i,x,p,hx,_=>by simp at hx
 | y::F,[],_,i,x,p,_,hp=>by simp at hp
 | y::F,q::P,nd,0,x,p,hx,hp=>by
  simp at hx hp;subst hx hp;exact X8 rfl
 | y::F,q::P,nd,i+1,x,p,hx,hp=>by
  have nd':=Y2k.mp nd;have hx':F[i]?=some x:=by simpa using hx
  have hne:y≠x:=fun e=>nd'.1 (e ▸ Y0o hx');show Zl ((((Sum.inl (y:Int):Key),V.str (pth q)))::pd F P) _=_;rw[YH (fun e=>hne (by have:=Sum.inl.inj e;omega))];exact Z7G nd'.2 hx' (by simpa using hp)
def Zbi:Sp:=fun vs H Q _=>∃ (a:Addr) (n:Nat) (r u:List Nat) (f:Nat),vs=[.ref a,.int (f:Int)]/\ZN H a r u/\Row n r/\Row n u/\n<=36/\f<n/\
 ∀ (H':Hp) (d:Addr) (F:List Nat) (P:List (List Nat)),Z7 H H'->H d=none->H' d=some (.dK (pd F P))->SL n r u f F P->Q (.ref d) H'
def We (H:Hp)(r u:List Nat)(p0 p1 p2 p3:Addr):Prop:=∀ i p,[p0,p1,p2,p3][i]?=some p->H p=some (.tup (nv (rw4 r u i)))
def PIn (n:Nat)(r u:List Nat)(f:Nat)(a ds dp lf:Addr)(kk x:Nat)(p0 p1 p2 p3:Addr)(H:Hp)(o:Obj)(i:Nat)(σ:St)(H3:Hp):Prop:=
 ∃ (F1:List Nat) (P1:List (List Nat)) (o7 o8:Option V),σ=[some (.ref a),some (.int (f:Int)),some (.ref ds),some (.ref dp),some (.ref lf),some (.int (kk:Int)),some (.int (x:Int)),o7,o8]/\Z7 H H3/\H3 ds=some (.frz o (.dK (sts p0 p1 p2 p3)))/\We H3 r u p0 p1 p2 p3/\
  H3 dp=some (.dK (pd F1 P1))/\H3 lf=some (.lst (nv F1))/\Pth n r u f F1 P1 kk i/\F1[kk]?=some x
section
variable {P:Program}{w:World}{K:Y00}{mg:Str->Option Value}{base:Heap}
theorem Xi:ZO ["rows","first","steps","paths","found","done","here","letter","row"] ["rows","first"] (Z0 Um):=⟨rfl,rfl,rfl,by decide +kernel,rfl,by decide +kernel,by decide +kernel⟩
theorem ZdL {f fs:Addr}{fd fds:FuncData}(T:Bi mg)(F:Fn K mg "paths_from" Um ["rows","first"] f fd)(FS:Fn K mg "step_rows" Ua ["rows"] fs fds)(GS:Z6 P w K mg base CX0 2 fs fds ["rows"] Zbq) :
  Z6 P w K mg base CX0 3 f fd ["rows","first"] Zbi:=by
 refine F.F.ok Xi (fun vs H Q E h=>?_) (fun cdv A outer s H vs Q E hr h=>?_)
 ·obtain⟨a,n,r,u,f,rfl,_⟩:=h;rfl
 ·obtain⟨a,n,r,u,f,rfl,hsh,rr,ru,hn,hf,k⟩:=h;have hu:=Sx hr;refine⟨_,Z5 (ZP (i:=2) Xi.nd rfl (Or.inl rfl) (ZU GS hr rfl FS.m FS.F.kp FS.b .nil ZX (Z9 (pv 0) Z8)))
   (Z5 (ZP (i:=3) Xi.nd rfl (Or.inl rfl) (Zaz (UO (pv 1) ZH Zbk) rfl rfl (by simp) (by decide)))
   (Z5 (ZP (i:=4) Xi.nd rfl (Or.inl rfl) (Y8 (Z9 (pv 1) Z8)))
   (Z5 (ZP (i:=5) Xi.nd rfl (Or.inl rfl) Z3)
   (Z5 (W3 PassesOwn.never (Zt Vo (pv 5) (ZF Zk (by rfl) T.len PySem.boot_len (Z9 (pv 4) Z8)) (Zw _))
    (Z5 (ZP (i:=6) Xi.nd rfl (Or.inl rfl) (ZY Zs (pv 4) (pv 5) (fun _ _=>rfl)))
    (Z5 (YQ PassesOwn.never rfl (Zdu (pv 2)) (SO rfl (YG (ZE (i:=7) Xi.nd rfl (Or.inl rfl)) (YG (ZE (i:=8) Xi.nd rfl (Or.inl rfl)) Xn)))
     (Z1 (Zu (ZdU (Z6M hu (ZY ZA (pv 8) (pv 6) (fun _ _=>rfl)) (pv 3)))
      (Z5 (S0 hu (pv 3) (ZY ZA (pv 8) (pv 6) (fun _ _=>rfl)) (ZJ YI (Zae hu (pv 3) (pv 6) (fun _ _=>rfl)) (pv 7)) rfl)
      (Z1 (Y3 (Zg PySem.F.plainAttrs_list PySem.F.slot_list_append PySem.F.type_list_append YU (pv 4) (Z9 (ZY ZA (pv 8) (pv 6) (fun _ _=>rfl)) Z8))))) Zr)))
    (Z1 (ZdO (i:=5) Xi.nd rfl (Or.inl rfl) Z3 Ze1)))))
   (Z1 (ZS (pv 3))))))),?_⟩
  refine⟨_,rfl,a,n,r,u,rfl,hsh,rr,ru,hn,fun H1 ds p0 p1 p2 p3 s1 hds0 hds hp0 hp1 hp2 hp3=>?_⟩;have rows1:We H1 r u p0 p1 p2 p3:=by
   intro i p hi
   match i,hi with
   | 0,hi=>cases hi;exact hp0
   | 1,hi=>cases hi;exact hp1
   | 2,hi=>cases hi;exact hp2
   | 3,hi=>cases hi;exact hp3
   | i+4,hi=>cases hi
  intro dp hdp;refine⟨_,rfl,Z2,[((Sum.inl (f:Int):Key),V.str "")],rfl,by show 1<=15;decide,?_⟩;have edp:Wn [] [((Sum.inl (f:Int):Key),V.str "")]=pd [f] [[]]:=by
   show Y1 [] (Sum.inl (f:Int):Key) (V.str "")=_;rw[Xq (kvs:=[]) _ rfl,ZfC];rfl
  rw[edp];refine⟨_,rfl,(by show 1<=sizeLine;decide),fun lf hlf=>?_⟩;have ndp:dp≠ds:=fun e=>by rw[e,hds]at hdp;cases hdp
  have g0:H1 lf=none:=by
   by_cases e:lf=dp
   ·rw[e];exact hdp
   ·rw[ZZ e,ZZ e]at hlf;exact hlf
  have nlf:lf≠dp:=fun e=>by rw[e,Z2]at hlf;cases hlf
  have nls:lf≠ds:=fun e=>by rw[e,hds]at g0;cases g0
  have Hdp:H dp=none:=s1.free hdp;have Hlf:H lf=none:=s1.free g0;refine WA (fun σ H2=>∃ (F:List Nat) (P:List (List Nat)) (kk:Nat) (o6 o7 o8:Option V),σ=[some (.ref a),some (.int (f:Int)),some (.ref ds),some (.ref dp),some (.ref lf),some (.int (kk:Int)),o6,o7,o8]/\Z7 H H2/\Rd H2 ds (.dK (sts p0 p1 p2 p3))/\We H2 r u p0 p1 p2 p3/\
   H2 dp=some (.dK (pd F P))/\H2 lf=some (.lst (nv F))/\Pth n r u f F P kk 0) (fun σ _=>mu 5 σ) ?_ ?_ ?_
  ·refine⟨[f],[[]],0,_,_,_,rfl,Z4 (Z4 (Z4 s1 Hdp) Hdp) Hlf,.inl (by rw[ZZ nls.symm,ZZ ndp.symm,ZZ ndp.symm];exact hds),fun i p hi=>?_,by rw[ZZ nlf.symm,Z2],Z2,Pth.start hf⟩;have:=rows1 i p hi;rw[ZZ (Zv this g0),ZZ (Zv this hdp),ZZ (Zv this hdp)];exact this
  ·rintro σ H2 ⟨F,P',kk,o6,o7,o8,rfl,s2,hst,rows2,h2p,h2l,hP⟩;refine⟨_,rfl,_,rfl,lf,_,rfl,.inl (SqL.of h2l),_,_,rfl,rfl,_,rfl,?_⟩;rw[ZQ];refine Yv (fun hlt=>?_) (fun hge=>?_)
   ·have hlt:(kk:Int)<(F.length:Int):=of_decide_eq_true hlt;have hk:kk<F.length:=(by omega);have hx:F[kk]?=some F[kk]:=Y01 hk;have hxn:F[kk]<n:=hP.lt _ (Y15 hk);refine⟨_,rfl,_,rfl,lf,_,_,_,rfl,rfl,SqL.of h2l,ZV (Zy hx),?_⟩;have start:∀ (o:Obj) (H3:Hp),Z7 H H3->H3 ds=some (.frz o (.dK (sts p0 p1 p2 p3)))->We H3 r u p0 p1 p2 p3->H3 dp=some (.dK (pd F P'))->H3 lf=some (.lst (nv F))->PIn n r u f a ds dp lf kk F[kk] p0 p1 p2 p3 H o 0
      [some (.ref a),some (.int (f:Int)),some (.ref ds),some (.ref dp),some (.ref lf),some (.int (kk:Int)),some (.int (F[kk]:Int)),o7,o8] H3:=fun o H3 e1 e2 e3 e4 e5=>⟨F,P',_,_,rfl,e1,e2,e3,e4,e5,hP,hx⟩
    have turn:∀ (o:Obj) (i:Nat) (ky:Key) (v:V) (σ:St) (H3:Hp) (T':Addr),(sts p0 p1 p2 p3)[i]?=some (ky,v)->H3 T'=none->PIn n r u f a ds dp lf kk F[kk] p0 p1 p2 p3 H o i σ H3->∃ (F1:List Nat) (P1:List (List Nat)) (p:Addr),i<4/\ky=Sum.inr (pth [i])/\v=.ref p/\
      (∃ o7 o8,σ=[some (.ref a),some (.int (f:Int)),some (.ref ds),some (.ref dp),some (.ref lf),some (.int (kk:Int)),some (.int (F[kk]:Int)),o7,o8])/\Z7 H (upd H3 T' (.tup [kV ky,v]))/\(upd H3 T' (.tup [kV ky,v])) ds=some (.frz o (.dK (sts p0 p1 p2 p3)))/\
      We (upd H3 T' (.tup [kV ky,v])) r u p0 p1 p2 p3/\(upd H3 T' (.tup [kV ky,v])) p=some (.tup (nv (rw4 r u i)))/\(upd H3 T' (.tup [kV ky,v])) dp=some (.dK (pd F1 P1))/\(upd H3 T' (.tup [kV ky,v])) lf=some (.lst (nv F1))/\Pth n r u f F1 P1 kk i/\F1[kk]?=some F[kk]:=by
     rintro o i ky v σ H3 T' hi hT ⟨F1,P1,o7,o8,rfl,e1,e2,e3,e4,e5,e6,e7⟩;obtain⟨hi4,rfl,p,rfl,hpi⟩:=Zf3 hi;have hp3:=e3 i p hpi;refine⟨F1,P1,p,hi4,rfl,rfl,⟨_,_,rfl⟩,Z4 e1 (e1.free hT),by rw[ZZ (Zv e2 hT)];exact e2,fun j q hq=>?_,by rw[ZZ (Zv hp3 hT)];exact hp3,by rw[ZZ (Zv e4 hT)];exact e4,by rw[ZZ (Zv e5 hT)];exact e5,e6,e7⟩;have:=e3 j q hq;rw[ZZ (Zv this hT)];exact this
    refine⟨_,rfl,ds,sts p0 p1 p2 p3,rfl,hst,fun o H3 h3s h3o=>?_⟩;have hns:∀ b w',H2 b=some w'->(∀ o,w'≠.frz o (.dK (sts p0 p1 p2 p3)))->w'≠.dK (sts p0 p1 p2 p3)->H3 b=some w':=fun b w' e c1 c2=>by
     have hb:b≠ds:=fun z=>by
      subst z;rcases hst with q|⟨o',q⟩
      ·rw[e]at q;exact c2 (Option.some.inj q)
      ·rw[e]at q;exact c1 o' (Option.some.inj q)
     rw[h3o b hb];exact e
    have e1:Z7 H H3:=fun b w' e=>by
     rw[h3o b (Zv e hds0)];exact s2 b w' e
    have e3:We H3 r u p0 p1 p2 p3:=fun i p hi=>hns _ _ (rows2 i p hi) (fun _ z=>nomatch z) (fun z=>nomatch z);have ndps:dp≠ds:=ndp;have e4:H3 dp=some (.dK (pd F P')):=(by rw[h3o dp ndps];exact h2p);have e5:H3 lf=some (.lst (nv F)):=(by rw[h3o lf nls];exact h2l);refine Zab (a:=ds) (kvs:=sts p0 p1 p2 p3) (o:=o) (PIn n r u f a ds dp lf kk F[kk] p0 p1 p2 p3 H o) (start o H3 e1 h3s e3 e4 e5) (fun i σ H4 _ ⟨_,_,_,_,_,_,e,_⟩=>e) ?_ ?_
    ·intro i ky v σ H4 T' hi hT hin;obtain⟨F1,P1,p,hi4,rfl,rfl,⟨q7,q8,rfl⟩,f1,f2,f3,f4,f5,f6,f7,f8⟩:=turn o i ky v σ H4 T' hi hT hin;generalize hH5:upd H4 T' (.tup [kV (Sum.inr (pth [i])),.ref p])=H5 at f1 f2 f3 f4 f5 f6 ⊢;have f0:H5 T'=some (.tup [kV (Sum.inr (pth [i])),.ref p]):=(by rw[<-hH5];exact Z2);have hrow:=ZbA rr ru i;have hk1:kk<F1.length:=(Y07.mp f8).1;have hFl:=f7.flen;refine⟨T',_,rfl,SqT.of f0,rfl,_,_,rfl,_,_,rfl,rfl,?_⟩;refine⟨_,rfl,_,rfl,p,_,_,_,rfl,rfl,SqT.of f4,ZV (Zy (hrow.get hxn)),_,rfl,dp,_,rfl,X1.k (k:=(Sum.inl ((nx (rw4 r u i) F[kk]:Nat):Int):Key)) f5,_,rfl,?_⟩
     by_cases hy:nx (rw4 r u i) F[kk]∈F1
     ·obtain⟨j,hj,ej⟩:=Y1g.mp hy;have hj1:F1[j]?=some (nx (rw4 r u i) F[kk]):=(by rw[Y01 hj,ej]);have hj2:j<P1.length:=(by rw[f7.len];exact hj);rw[Z7G f7.nd hj1 (Y01 hj2)];refine ZG ?_;exact⟨F1,P1,_,_,rfl,f1,f2,f3,f5,f6,f7.old f8 hy,f8⟩
     ·rw[Zad f7.len hy];refine Zo ?_;have hk2:kk<P1.length:=(by rw[f7.len];exact hk1);obtain⟨pk,hpk⟩:∃ pk,P1[kk]?=some pk:=⟨_,Y01 hk2⟩;have hlen:=(f7.ok kk _ pk f8 hpk).2.1;have hg:=X1.k (k:=(Sum.inl ((F[kk]:Nat):Int):Key)) f5;rw[Z7G f7.nd f8 hpk]at hg;refine⟨_,rfl,_,rfl,dp,_,rfl,hg,_,rfl,_,_,rfl,rfl,?_,?_⟩
      ·rw[Zac,Zac];exact Y14 (Zj (by show pk.length+1<=1000;omega))
      refine⟨_,rfl,_,rfl,_,rfl,p,_,_,_,rfl,rfl,SqT.of f4,ZV (Zy (hrow.get hxn)),dp,_,rfl,WN.k (k:=(Sum.inl ((nx (rw4 r u i) F[kk]:Nat):Int):Key)) f5 (by rw[ZgD f7.len];exact Zj (by omega)),?_⟩;rw[Xq _ (Zad f7.len hy),ZcO,<-ZeF f7.len];generalize hH6:upd H5 dp (.dK (pd (F1++[nx (rw4 r u i) F[kk]]) (P1++[pk++[i]])))=H6;have g1:Z7 H H6:=(by rw[<-hH6];exact Z4 f1 Hdp);have g2:H6 ds=some (.frz o (.dK (sts p0 p1 p2 p3))):=(by rw[<-hH6,ZZ ndp.symm];exact f2);have g3:We H6 r u p0 p1 p2 p3:=fun j q hq=>by
       have:=f3 j q hq;rw[<-hH6,ZZ (T7 this f5 (by intro z;cases z))];exact this
      have g4:H6 p=some (.tup (nv (rw4 r u i))):=(by rw[<-hH6,ZZ (T7 f4 f5 (by intro z;cases z))];exact f4);have g5:H6 dp=some (.dK (pd (F1++[nx (rw4 r u i) F[kk]]) (P1++[pk++[i]]))):=(by rw[<-hH6];exact Z2);have g6:H6 lf=some (.lst (nv F1)):=(by rw[<-hH6,ZZ nlf];exact f6);refine⟨_,rfl,.inl ⟨rfl,_,SqL.of g6⟩,_,rfl,_,rfl,p,_,_,_,rfl,rfl,SqT.of g4,ZV (Zy (hrow.get hxn)),lf,_,_,rfl,rfl,g6,?_,?_⟩
      ·rw[ZQ];exact Zj (by omega)
      refine⟨_,_,_,_,rfl,Z4 g1 Hlf,by rw[ZZ nls.symm];exact g2,fun j q hq=>?_,by rw[ZZ nlf.symm];exact g5,by rw[Z2,XD],f7.new rr ru hi4 f8 hpk hy,?_⟩
      ·have:=g3 j q hq;rw[ZZ (T7 this g6 (by intro z;cases z))];exact this
      ·rw[Y0z hk1];exact f8
    ·rintro σ H4 ⟨F1,P1,q7,q8,rfl,f1,f2,f3,f5,f6,f7,f8⟩;refine⟨_,rfl,_,_,rfl,rfl,⟨F1,P1,kk+1,_,_,_,rfl,f1,.inr ⟨o,f2⟩,f3,f5,f6,f7.next f8⟩,?_⟩;show (100-((kk:Int)+1)).toNat<(100-(kk:Int)).toNat;have:=f7.flen;have:=(Y07.mp f8).1;omega
   ·have hge:¬ (kk:Int)<(F.length:Int):=fun z=>hge (decide_eq_true z);exact⟨_,rfl,k H2 dp F P' s2 Hdp h2p (hP.all (by omega))⟩
  ·rintro σ H Q Q' h ⟨v,e1,v',e2,p,ys,e3,sq,i,j,e4,e5,k,e6,q⟩;exact⟨v,e1,v',e2,p,ys,e3,sq,i,j,e4,e5,k,e6,h _ _ q⟩
end
def Zeh (K:Y00):Sp:=fun vs H Q _=>∃ (p:Addr) (n:Nat) (r:List Nat),vs=[.ref p]/\X5 K H p r/\Row n r/\n<=36/\∀ H':Hp,Z7 H H'->Q (.bl true) H'
def Xr (K:Y00)(H:Hp)(p:Addr)(r:List Nat):Prop:=SqL K H p (nv r)\/H p=some (.tup (nv r))
theorem Xr.row {K:Y00}{H:Hp}{p:Addr}{r:List Nat}(h:Xr K H p r):X5 K H p r:=h.imp id SqT.of
theorem Xr.same {K:Y00}{H H':Hp}{p:Addr}{r:List Nat}(e:Z7 H H')(h:Xr K H p r):Xr K H' p r:=h.imp e.seq (e _ _)
def Z77 (K:Y00):Sp:=fun vs H Q _=>∃ (p q:Addr) (n:Nat) (r u:List Nat),vs=[.ref p,.ref q]/\Xr K H p r/\Xr K H q u/\Row n r/\Row n u/\1<=n/\n<=36/\∀ (H':Hp) (a:Addr),Z7 H H'->ZN H' a r u->Q (.ref a) H'
abbrev Zif (K:Y00):List V->Hp->VK->Prop:=fun xs H Q=>∃ p ys,xs=[.ref p]/\(SqL K H p ys\/SqT K H p ys)/\Q (.int (ys.length:Int)) H
theorem Zh8 {K:Y00}{Hc:Hp}{p:Addr}{r:List Nat}{n:Nat}{Q:VK}{σ:St}(h0:σ[0]?=some (some (.ref p)))(hb:bst 1 [0] σ=[none,some (.ref p)])(hp:X5 K Hc p r)(rr:Row n r)(hn:n<=36)
  (k:∀ (H':Hp) (d:Addr),Z7 Hc H'->H' d=some (.lst ((Y0p n true).map V.bl))->Q (.ref d) H') :
  YO (fun σ H R=>Yr K (ZW 0) σ H R\/WS K (ZW 0) σ H R) 1 [0] (ZC 0) (Yz T9 [] E0 (ZM (ZW 0) (ZM (tCB (Zif K) (ZM (ZW 1) Zx)) Zx))) σ Hc Q:=by
 have core:∀ (J:It),(∀ H3,Z7 Hc H3->(∀ i,i<n->J.go i H3/\∀ x H2,J.yld i H3 x H2->H2=H3/\x=.int (nx r i:Int))/\J.stop n H3)->∀ d,Hc d=none->
   ∃ W:Nat->Nat->St->Hp->Prop,(∃ m,W 0 m (bst 1 [0] σ) (upd Hc d (.lst [])))/\∀ i m σ' H',W i m σ' H'->
    (J.stop i H'/\Q (.ref d) H')\/(J.go i H'/\∀ x H2,J.yld i H' x H2->ZC 0 x σ' H2 fun σ3 H3=>Yz T9 [] E0 (ZM (ZW 0) (ZM (tCB (Zif K) (ZM (ZW 1) Zx)) Zx)) σ3 H3 fun y H4=>∃ xs,H4 d=some (.lst xs)/\xs.length<sizeLine/\∃ m',m'<m/\W (i+1) m' σ3 (upd H4 d (.lst (xs++[y])))):=by
  intro J hJ d hd;rw[hb];refine YR (Q:=fun d H'=>Q (.ref d) H') n ((Y0p n true).map V.bl) (by simp) (fun i σ H3=>∃ o,σ=[o,some (.ref p)]/\Z7 Hc H3) ⟨_,rfl,Z4 (Z7.refl _) hd⟩ ?_ ?_
  ·rintro i σ H3 hi ⟨o,rfl,s3⟩ hd3;obtain⟨g1,g2⟩:=(hJ H3 s3).1 i hi;refine⟨g1,fun x H4 hy=>?_⟩;obtain⟨e1,e2⟩:=g2 x H4 hy;subst e1 e2;refine⟨_,rfl,_,rfl,p,_,rfl,hp.same s3,_,_,rfl,?_⟩;have hlt:=rr.nlt hi;rw[ZQ,rr.len,decide_eq_true (by omega)];exact YN hi (by omega) hd3 (by simp[hi]) ⟨_,rfl,Z4 s3 hd⟩
  ·rintro σ H3 ⟨o,rfl,s3⟩ hd3;exact⟨(hJ H3 s3).2,k H3 d s3 hd3⟩
 rcases id hp with h|h
 ·refine .inl ⟨_,h0,p,rfl,⟨_,h⟩,core _ fun H3 s3=>⟨fun i hi=>⟨⟨_,_,s3.seq h,Zy (rr.get hi)⟩,fun x H2 ⟨e,hy⟩=>⟨e,?_⟩⟩,⟨_,s3.seq h,by rw[ZQ,rr.len];exact Y04 _⟩⟩⟩;have:=hy _ (s3.seq h);rw[Zy (rr.get hi)]at this;exact (Option.some.inj this).symm
 ·refine .inr ⟨_,h0,p,rfl,⟨_,h⟩,core _ fun H3 s3=>⟨fun i hi=>⟨⟨_,_,Z7.tseq s3 h,Zy (rr.get hi)⟩,fun x H2 ⟨e,hy⟩=>⟨e,?_⟩⟩,⟨_,Z7.tseq s3 h,by rw[ZQ,rr.len];exact Y04 _⟩⟩⟩;have:=hy _ (Z7.tseq s3 h);rw[Zy (rr.get hi)]at this;exact (Option.some.inj this).symm
section
variable {P:Program}{w:World}{K:Y00}{mg:Str->Option Value}{base:Heap}
theorem Zgw:ZO ["row"] ["row"] (Z0 Vh):=⟨rfl,rfl,rfl,by decide +kernel,rfl,by decide +kernel,by decide +kernel⟩
theorem ndT:(["thing","row"]:List Str).Nodup:=by decide +kernel
theorem ZeX {f fs:Addr}{fd fds:FuncData}(T:Bi mg)(F:Fn K mg "has_each_once" Vh ["row"] f fd)(FS:Fn K mg "is_square" T3 ["thing","squares"] fs fds)(GS:Z6 P w K mg base CX0 2 fs fds ["thing","squares"] T9) :
  Z6 P w K mg base CX0 3 f fd ["row"] (Zeh K):=by
 refine F.F.ok Zgw (fun vs H Q E h=>?_) (fun cdv A outer s H vs Q E hr h=>?_)
 ·obtain⟨p,n,r,rfl,_⟩:=h;rfl
 ·obtain⟨p,n,r,rfl,hp,rr,hn,k⟩:=h;refine⟨_,Z5 (Zu (Yt (YW (ZF (U8 rfl) (by rfl) T.all US (Z9
     (Y6 (N:=["row"]) (names:=(Z0 Vh).names) (N':=["thing","row"]) (k:=1) (pull:=[0]) (te:=Yz T9 [] E0 (ZM (ZW 0) (ZM (tCB (Zif K) (ZM (ZW 1) Zx)) Zx))) rfl
      ⟨by rfl,by decide +kernel,by decide +kernel,by rfl,by decide +kernel,by decide +kernel⟩ rfl rfl (PI.or (Y5 (pv 0)) (XQ (pv 0))) (fun _ _ _ _ _ _=>ZE (i:=0) ndT rfl (Or.inl rfl))
      (fun _ _ _ _ _ _=>ZU GS hr rfl FS.m FS.F.kp FS.b .nil ZX (Z9 (pv 0) (Z9 (ZF Zk (by rfl) T.len PySem.boot_len (Z9 (pv 1) Z8)) Z8)))) Z8)))) (Z1 (ZS Yy)) Zr)
   (Z1 (ZS (Ym Ze (ZF Z62 (by rfl) T.len PySem.boot_len (Z9 (Y7 (ZcW rfl) (by rfl) T.set Zdz (Z9 (pv 0) Z8)) Z8)) (ZF Zk (by rfl) T.len PySem.boot_len (Z9 (pv 0) Z8)) (Zw _)))),?_⟩
  dsimp only [Wf,Yh,TK,TF,tB,tCB,ZM];refine Zh8 rfl rfl hp rr hn fun H3 d s3 hd3=>?_;refine⟨d,_,rfl,SqL.of hd3,_,rfl,?_⟩;rw[ZbO];refine ZG ?_;refine⟨_,rfl,p,r,rfl,hp.same s3,by rw[rr.len];omega,fun d2 S hd2=>?_⟩;have s4:Z7 H (upd H3 d2 (.set S (Vr r))):=Z4 s3 (s3.free hd2);refine⟨d2,S,_,rfl,Z2,_,rfl,p,_,rfl,hp.same s4,rfl,?_⟩;have e:decide (V.int (Vr r:Int)=V.int ((nv r).length:Int))=true:=decide_eq_true (by rw[Zbl rr.nd,ZQ]);rw[e];exact k _ s4
theorem ZbR:ZO ["right","up"] ["right","up"] (Z0 UH):=⟨rfl,rfl,rfl,by decide +kernel,rfl,by decide +kernel,by decide +kernel⟩
def ZdS (K:Y00):List V->Hp->VK->Prop:=fun xs H Q=>∃ p ys,xs=[.ref p]/\((SqL K H p ys/\∀ l,H l=none->Q (.ref l) (upd H l (.tup ys)))\/(SqT K H p ys/\Q (.ref p) H))
theorem Z5h {X:Cx}:YM X (.type "tuple") (ZdS X.K):=XH
theorem Zg2 {K:Y00}{H:Hp}{p:Addr}{r:List Nat}{Q:VK}(h:Xr K H p r)(k:∀ (H':Hp) (l:Addr),Z7 H H'->H' l=some (.tup (nv r))->Q (.ref l) H') :
  ZdS K [.ref p] H Q:=by
 rcases h with h|h
 ·exact⟨p,_,rfl,.inl ⟨h,fun l hl=>k _ l (Z4 (Z7.refl H) hl) Z2⟩⟩
 ·exact⟨p,_,rfl,.inr ⟨SqT.of h,k H p (Z7.refl H) h⟩⟩
theorem Z9K {f fe:Addr}{fd fde:FuncData}{tm:Tok}(T:Bi mg)(hm:mg "MOST_SQUARES"=some (.int 36 tm))(F:Fn K mg "checked_rows" UH ["right","up"] f fd)(FE:Fn K mg "has_each_once" Vh ["row"] fe fde)(GE:Z6 P w K mg base CX0 3 fe fde ["row"] (Zeh K)) :
  Z6 P w K mg base CX0 4 f fd ["right","up"] (Z77 K):=by
 refine F.F.ok ZbR (fun vs H Q E h=>?_) (fun cdv A outer s H vs Q E hr h=>?_)
 ·obtain⟨p,q,n,r,u,rfl,_⟩:=h;rfl
 ·obtain⟨p,q,n,r,u,rfl,hp,hq,rr,ru,h1,hn,k⟩:=h;refine⟨_,Z5 (Zu (Zt Vn (ZF Zk (by rfl) T.len PySem.boot_len (Z9 (pv 0) Z8)) (ZF Zk (by rfl) T.len PySem.boot_len (Z9 (pv 1) Z8)) (Zw _)) Yf Zr)
   (Z5 (Zu (Yt (Zcv Wi Wi Z3 (ZF Zk (by rfl) T.len PySem.boot_len (Z9 (pv 0) Z8)) (X6 (v:=.int 36) (by rfl) hm ⟨_,rfl⟩))) Yf Zr)
   (Z5 (Zu (Yt (PW.pt (ZdQ (YW (ZU GE hr rfl FE.m FE.F.kp FE.b .nil ZX (Z9 (pv 0) Z8))) (Za2 (YW (ZU GE hr rfl FE.m FE.F.kp FE.b .nil ZX (Z9 (pv 1) Z8))))))) Yf Zr)
   (Z1 (ZS (Y2 (Z9 (Y7 Z5h (by rfl) T.tuple Yg (Z9 (pv 0) Z8)) (Z9 (Y7 Z5h (by rfl) T.tuple Yg (Z9 (pv 1) Z8)) Z8))))))),?_⟩
  refine⟨_,rfl,p,_,rfl,hp.row,_,rfl,q,_,rfl,hq.row,rfl,_,rfl,?_⟩;refine So (by rw[ZQ,ZQ,rr.len,ru.len]) ?_;refine⟨_,rfl,p,_,rfl,hp.row,_,_,rfl,rfl,_,rfl,?_⟩;rw[ZQ,rr.len];have e1:decide ((1:Int)<=(n:Int))=true:=decide_eq_true (by omega);have e2:decide ((n:Int)<=36)=true:=decide_eq_true (by omega);rw[e1];refine Zo ?_;refine⟨_,_,rfl,rfl,_,rfl,?_⟩;rw[e2];refine ZG ?_;refine⟨_,rfl,p,n,r,rfl,hp.row,rr,hn,fun H1 s1=>?_⟩;refine⟨_,rfl,?_⟩;refine Zo ?_;refine⟨_,rfl,q,n,u,rfl,hq.row.same s1,ru,hn,fun H2 s2=>?_⟩;refine⟨_,rfl,?_⟩;refine ZG ?_;have s12:=s1.trans s2;refine⟨_,rfl,?_⟩;dsimp only [Zx,ZM,tCB];refine Zg2 (hp.same s12) fun H3 t1 s3 h3=>?_;refine⟨_,rfl,?_⟩;dsimp only [Zx,ZM,tCB];refine Zg2 (hq.same (s12.trans s3)) fun H4 t2 s4 h4=>?_;refine⟨by show 2<=sizeLine;decide,fun a ha=>k _ a (Z4 (s12.trans (s3.trans s4)) ((s12.trans (s3.trans s4)).free ha)) ⟨t1,t2,Z2,?_,?_⟩⟩
  ·have:=s4 _ _ h3;rw[ZZ (Zv this ha)];exact this
  ·rw[ZZ (Zv h4 ha)];exact h4
end
noncomputable def Xx (j:Nat):List (Key×V):=(Y03 j).map fun (x:Nat)=>((Sum.inl (x:Int):Key),V.bl true)
theorem Z7z (j:Nat):Xx (j+1)=Xx j++[(Sum.inl (j:Int),V.bl true)]:=by
 unfold Xx;rw[Y1i,Y0t];rfl
theorem Zdr (j:Nat):(Xx j).length=j:=by simp[Xx]
theorem Te:∀ (j i:Nat),Zl (Xx j) (Sum.inl (i:Int):Key)=if i<j then some (.bl true) else none
 | 0,i=>rfl
 | j+1,i=>by
  have hn:Zl (Xx j) (Sum.inl (j:Int):Key)=none:=by rw[Te j j,if_neg (Y1o _)]
  rw[Z7z,Z5p _ _ _ _ hn]
  by_cases e:i=j
  ·subst e;rw[if_pos rfl,if_pos (Y1t _)]
  ·rw[if_neg (fun z=>e (by have:=Sum.inl.inj z;omega)),Te j i]
   by_cases h:i<j
   ·rw[if_pos h,if_pos (by omega)]
   ·rw[if_neg h,if_neg (by omega)]
def Z8Y:Sp:=fun vs H Q _=>∃ (a:Addr) (n:Nat) (r u:List Nat),vs=[.ref a]/\ZN H a r u/\ZK n r u/\∀ (H':Hp) (l g:Addr),Z7 H H'->H' l=some (.lst [.ref g])->H' g=some (.lst (nv (Y03 n)))->Q (.ref l) H'
def Z72 (K:Y00):Sp:=fun vs H Q _=>∃ (p q:Addr) (n:Nat) (r u:List Nat),vs=[.ref p,.ref q]/\Xr K H p r/\Xr K H q u/\ZK n r u/\∀ (H':Hp) (a:Addr),Z7 H H'->ZN H' a r u->Q (.ref a) H'
section
variable {P:Program}{w:World}{K:Y00}{mg:Str->Option Value}{base:Heap}
theorem VQ:ZO ["rows","told","seen","first","group","square"] ["rows"] (Z0 Uv):=⟨rfl,rfl,rfl,by decide +kernel,rfl,by decide +kernel,by decide +kernel⟩
theorem Zbn {f fz fp:Addr}{fd fdz fdp:FuncData}(T:Bi mg)(F:Fn K mg "groups_of" Uv ["rows"] f fd)(FZ:Fn K mg "size" Vj ["sheet"] fz fdz)(GZ:Z6 P w K mg base CX0 1 fz fdz ["sheet"] ZaZ)
  (FP:Fn K mg "paths_from" Um ["rows","first"] fp fdp) (GP:Z6 P w K mg base CX0 3 fp fdp ["rows","first"] Zbi):Z6 P w K mg base CX0 4 f fd ["rows"] Z8Y:=by
 refine F.F.ok VQ (fun vs H Q E h=>?_) (fun cdv A outer s H vs Q E hr h=>?_)
 ·obtain⟨a,n,r,u,rfl,_⟩:=h;rfl
 ·obtain⟨a,n,r,u,rfl,hsh,hS,k⟩:=h;have hu:=Sx hr;have hr1:ZR 1 _:=hr.mono (by decide);refine⟨_,Z5 (ZP (i:=1) VQ.nd rfl (Or.inl rfl) (Y8 Z8))
   (Z5 (ZP (i:=2) VQ.nd rfl (Or.inl rfl) Z6g)
   (Z5 (YQ PassesOwn.never rfl (X9 rfl T.range (Z9 (ZU GZ hr1 rfl FZ.m FZ.F.kp FZ.b .nil ZX (Z9 (pv 0) Z8)) Z8)) (ZE (i:=3) VQ.nd rfl (Or.inl rfl))
    (Z1 (Zu (ZdU (Z6M hu (pv 3) (pv 2)))
     (Z5 (ZP (i:=4) VQ.nd rfl (Or.inl rfl) (ZF (U2 rfl) rfl T.sorted V7 (Z9 (ZU GP hr rfl FP.m FP.F.kp FP.b .nil ZX (Z9 (pv 0) (Z9 (pv 3) Z8))) Z8)))
     (Z5 (Y3 (Zg PySem.F.plainAttrs_list PySem.F.slot_list_append PySem.F.type_list_append YU (pv 1) (Z9 (pv 4) Z8)))
     (Z1 (YQ PassesOwn.never rfl (Y5 (pv 4)) (ZE (i:=5) VQ.nd rfl (Or.inl rfl)) (Z1 (S0 hu (pv 2) (pv 5) Yy rfl)))))) Zr)))
   (Z1 (ZS (pv 1))))),?_⟩
  refine⟨Y0y _,fun lt hlt=>?_⟩;intro dn hdn;have s1:Z7 H (upd H lt (.lst [])):=Z4 (Z7.refl H) hlt;have Hdn:H dn=none:=s1.free hdn;have s2:Z7 H (upd (upd H lt (.lst [])) dn (.dK [])):=Z4 s1 Hdn;have nlt:lt≠dn:=fun e=>by rw[<-e,Z2]at hdn;cases hdn
  refine⟨_,rfl,a,r,u,rfl,hsh.same s2,(r.length:Int),rfl,by omega,by have:=hS.most;have:=hS.row.len;omega,?_⟩;rw[Y0q,hS.row.len];refine WE (n:=n) (fun i σ H2=>∃ o3 o4 o5,σ=[some (.ref a),some (.ref lt),some (.ref dn),o3,o4,o5]/\Z7 H H2/\((i=0/\H2 lt=some (.lst [])/\H2 dn=some (.dK []))\/(1<=i/\∃ g,H2 lt=some (.lst [.ref g])/\H2 g=some (.lst (nv (Y03 n)))/\H2 dn=some (.dK (Xx n))))) ?_ ?_ ?_
  ·exact⟨_,_,_,rfl,s2,.inl ⟨rfl,by rw[ZZ nlt,Z2],Z2⟩⟩
  ·rintro i σ H2 hi ⟨o3,o4,o5,rfl,e2,⟨rfl,h2t,h2n⟩|⟨h1i,g,h2t,h2g,h2n⟩⟩
   ·
    refine⟨_,rfl,_,rfl,dn,_,rfl,X1.k (k:=(Sum.inl (((0:Nat):Int)):Key)) h2n,_,rfl,?_⟩;refine Zo ?_;refine⟨_,rfl,_,rfl,a,n,r,u,0,rfl,hsh.same e2,hS.row,hS.col,hS.most,hS.pos,fun H3 dp F P' e3 _ h3 hP=>?_⟩;have rF:=hP.full hS;refine⟨dp,F,rfl,.inr (.inr ⟨_,h3,Z86 hP.len⟩),by rw[rF.len];have:=hS.most;omega,fun g S hg pS sS=>?_⟩;have eS:S=Y03 n:=rF.sorted pS sS;subst eS;have ngt:lt≠g:=Zv (e3 _ _ h2t) hg;have h4t:(upd H3 g (.lst (nv (Y03 n)))) lt=some (.lst []):=(by rw[ZZ ngt];exact e3 _ _ h2t);refine⟨_,rfl,.inl ⟨rfl,_,SqL.of h4t⟩,_,rfl,lt,_,_,rfl,rfl,h4t,by show 0<sizeLine;decide,?_⟩;have e23:=e2.trans e3;have Hg:H g=none:=e23.free hg;have ndg:dn≠g:=Zv (e3 _ _ h2n) hg;have f1:Z7 H (upd (upd H3 g (.lst (nv (Y03 n)))) lt (.lst ([]++[.ref g]))):=Z4 (Z4 e23 Hg) hlt;have f2:(upd (upd H3 g (.lst (nv (Y03 n)))) lt (.lst ([]++[.ref g]))) g=some (.lst (nv (Y03 n))):=(by rw[ZZ ngt.symm,Z2]);refine⟨_,rfl,g,rfl,⟨_,SqL.of f2⟩,VW (K:=K) (a:=g) (xs:=nv (Y03 n)) (fun j σ H4=>∃ o5,σ=[some (.ref a),some (.ref lt),some (.ref dn),some (.int (0+((0:Nat):Int))),some (.ref g),o5]/\Z7 H H4/\H4 lt=some (.lst [.ref g])/\H4 g=some (.lst (nv (Y03 n)))/\H4 dn=some (.dK (Xx j)))
     ⟨_,rfl,f1,Z2,f2,by rw[ZZ nlt.symm,ZZ ndg];exact e3 _ _ h2n⟩ (fun j σ H4 _ ⟨_,_,_,_,e,_⟩=>SqL.of e) ?_ ?_⟩
    ·rintro j x σ H4 hx ⟨o5,rfl,q1,q2,q3,q4⟩;obtain⟨y,hy,rfl⟩:=VH hx;have hj:j<n:=by have:=(Y07.mp hy).1;simpa using this
     have ey:y=j:=(by rw[Y21 hj]at hy;exact (Option.some.inj hy).symm);subst ey;refine⟨_,rfl,_,rfl,dn,_,rfl,WN.k (k:=(Sum.inl (y:Int):Key)) q4 (by rw[Zdr];exact Zj (by have:=hS.most;omega)),?_⟩;refine⟨_,rfl,Z4 q1 Hdn,by rw[ZZ nlt];exact q2,by rw[ZZ ndg.symm];exact q3,?_⟩;rw[Z2,Xq _ (by rw[Te,if_neg (Y1o _)]),Z7z]
    ·rintro σ H4 ⟨o5,rfl,q1,q2,q3,q4⟩;rw[ZQ,Y0m]at q4;exact⟨_,_,_,rfl,q1,.inr ⟨Y04 _,g,q2,q3,q4⟩⟩
   ·refine⟨_,rfl,_,rfl,dn,_,rfl,X1.k (k:=(Sum.inl (0+(i:Int)):Key)) h2n,_,rfl,?_⟩;have ev:Zl (Xx n) (Sum.inl (0+(i:Int)):Key)=some (.bl true):=by
     rw[Int.zero_add,Te,if_pos hi]
    rw[ev];refine ZG ?_;exact⟨_,_,_,rfl,e2,.inr ⟨by omega,g,h2t,h2g,h2n⟩⟩
  ·rintro σ H2 ⟨o3,o4,o5,rfl,e2,⟨e0,_⟩|⟨h1i,g,h2t,h2g,h2n⟩⟩
   ·have:=hS.pos;omega
   ·exact⟨_,rfl,k H2 lt g e2 h2t h2g⟩
theorem Z4L:ZO ["right","up","sheet","parts"] ["right","up"] (Z0 UI):=⟨rfl,rfl,rfl,by decide +kernel,rfl,by decide +kernel,by decide +kernel⟩
theorem Z9w {f fc fg:Addr}{fd fdc fdg:FuncData}(T:Bi mg)(F:Fn K mg "sheet_of" UI ["right","up"] f fd)(FC:Fn K mg "checked_rows" UH ["right","up"] fc fdc)(GC:Z6 P w K mg base CX0 4 fc fdc ["right","up"] (Z77 K))
  (FG:Fn K mg "groups_of" Uv ["rows"] fg fdg) (GG:Z6 P w K mg base CX0 4 fg fdg ["rows"] Z8Y):Z6 P w K mg base CX0 5 f fd ["right","up"] (Z72 K):=by
 refine F.F.ok Z4L (fun vs H Q E h=>?_) (fun cdv A outer s H vs Q E hr h=>?_)
 ·obtain⟨p,q,n,r,u,rfl,_⟩:=h;rfl
 ·obtain⟨p,q,n,r,u,rfl,hp,hq,hS,k⟩:=h;refine⟨_,Z5 (ZP (i:=2) Z4L.nd rfl (Or.inl rfl) (ZU GC hr rfl FC.m FC.F.kp FC.b .nil ZX (Z9 (pv 0) (Z9 (pv 1) Z8))))
   (Z5 (ZP (i:=3) Z4L.nd rfl (Or.inl rfl) (ZU GG hr rfl FG.m FG.F.kp FG.b .nil ZX (Z9 (pv 2) Z8)))
   (Z5 (Zu (Zt Vm (ZF Zk (by rfl) T.len PySem.boot_len (Z9 (pv 3) Z8)) Z3 (Zw _)) Yf Zr)
   (Z1 (ZS (pv 2))))),?_⟩
  refine⟨_,rfl,_,rfl,p,q,n,r,u,rfl,hp,hq,hS.row,hS.col,hS.pos,hS.most,fun H1 a s1 ha=>?_⟩;refine⟨_,rfl,a,n,r,u,rfl,ha,hS,fun H2 l g s2 hl hg=>?_⟩;refine⟨_,rfl,l,_,rfl,.inl (SqL.of hl),_,_,rfl,rfl,_,rfl,?_⟩;refine ZG ?_;exact⟨_,rfl,k H2 a (s1.trans s2) (ha.same s2)⟩
end
def ZeD:Sp:=fun vs H Q _=>∃ (a:Addr) (n:Nat) (r u:List Nat),vs=[.ref a]/\ZN H a r u/\ZK n r u/\∀ H':Hp,Z7 H H'->Q (.str (txt (ZL r++[32]++ZL u))) H'
def Zbx:Sp:=fun vs H Q _=>∃ (n:Nat) (r u:List Nat),vs=[.str (txt (ZL r++[32]++ZL u))]/\ZK n r u/\∀ (H':Hp) (a:Addr),Z7 H H'->ZN H' a r u->Q (.ref a) H'
theorem ZK.lt36 {n:Nat}{r u:List Nat}(h:ZK n r u):(∀ x∈r,x<36)/\∀ x∈u,x<36:=
 ⟨fun x hx=>Y0i (h.row.lt x hx) h.most,fun x hx=>Y0i (h.col.lt x hx) h.most⟩
theorem ZK.len36 {n:Nat}{r u:List Nat}(h:ZK n r u):r.length<=36/\u.length<=36:=⟨by rw[h.row.len];exact h.most,by rw[h.col.len];exact h.most⟩
theorem Zag {n:Nat}{r:List Nat}(h:Row n r)(h1:1<=n)(hn:n<=36):YC (ZL r)=true:=by
 unfold YC;rw[YX,h.len,decide_eq_true h1,decide_eq_true hn];show (List.all _ _)=true;rw[Y2d];intro c hc;obtain⟨k,hk,rfl⟩:=Y0d.mp hc;exact decide_eq_true (Y0d.mpr ⟨k,Y08.mpr (Y0i (h.lt k hk) hn),rfl⟩)
section
variable {P:Program}{w:World}{K:Y00}{mg:Str->Option Value}{base:Heap}
theorem ZeN:ZO ["sheet","right","up"] ["sheet"] (Z0 Ug):=⟨rfl,rfl,rfl,by decide +kernel,rfl,by decide +kernel,by decide +kernel⟩
theorem Zg1 {f fs:Addr}{fd fds:FuncData}(F:Fn K mg "shown" Ug ["sheet"] f fd)(FS:Fn K mg "signs_of" VP ["row"] fs fds)(GS:Z6 P w K mg base CX0 1 fs fds ["row"] (Z7l K)) :
  Z6 P w K mg base CX0 2 f fd ["sheet"] ZeD:=by
 refine F.F.ok ZeN (fun vs H Q E h=>?_) (fun cdv A outer s H vs Q E hr h=>?_)
 ·obtain⟨a,n,r,u,rfl,_⟩:=h;rfl
 ·obtain⟨a,n,r,u,rfl,hsh,hS,k⟩:=h;obtain⟨p,q,h1,h2,h3⟩:=id hsh;refine⟨_,Z5 (ZP (i:=1) ZeN.nd rfl (Or.inl rfl) (ZU GS hr rfl FS.m FS.F.kp FS.b .nil ZX (Z9 (ZY ZA (pv 0) Z3 (fun _ _=>rfl)) Z8)))
   (Z5 (ZP (i:=2) ZeN.nd rfl (Or.inl rfl) (ZU GS hr rfl FS.m FS.F.kp FS.b .nil ZX (Z9 (ZY ZA (pv 0) Z3 (fun _ _=>rfl)) Z8)))
   (Z1 (ZS (Zfe (.cons (Zc3 (pv 1)) (.cons ZH (.cons (Zc3 (pv 2)) .nil))))))),?_⟩
  refine⟨_,rfl,a,_,0,_,rfl,rfl,SqT.of h1,ZV (j:=0) rfl,p,r,rfl,.inl (SqT.of h2),(ZK.lt36 hS).1,by have:=(ZK.len36 hS).1;omega,fun H1 s1=>?_⟩;refine⟨_,rfl,a,_,1,_,rfl,rfl,SqT.of (s1 _ _ h1),ZV (j:=1) rfl,q,u,rfl,.inl (SqT.of (s1 _ _ h3)),(ZK.lt36 hS).2,by have:=(ZK.len36 hS).2;omega,fun H2 s2=>?_⟩;have l1:=(ZK.len36 hS).1;have l2:=(ZK.len36 hS).2;have e0:(Str.empty:Str)=txt []:=rfl;refine⟨_,rfl,_,rfl,by rw[ZD,YX];exact W2 (by omega),_,rfl,?_,?_⟩
  ·rw[e0,Zh,ZD];exact W2 (by simp[YX];omega)
  rw[e0,Zh,List.nil_append];refine⟨_,rfl,?_,?_⟩
  ·rw[YD,Zh,ZD];exact W2 (by simp[YX];omega)
  rw[YD,Zh];refine⟨_,rfl,_,rfl,by rw[ZD,YX];exact W2 (by omega),_,rfl,?_,?_⟩
  ·rw[Zh,ZD];exact W2 (by simp[YX];omega)
  rw[Zh];exact k H2 (s1.trans s2)
theorem Ze7:ZO ["text","words"] ["text"] (Z0 Vg):=⟨rfl,rfl,rfl,by decide +kernel,rfl,by decide +kernel,by decide +kernel⟩
theorem ZeG {f fp fs fo:Addr}{fd fdp fds fdo:FuncData}(F:Fn K mg "read" Vg ["text"] f fd)(FP:Fn K mg "is_pair" Us ["words"] fp fdp)(GP:Z6 P w K mg base CX0 2 fp fdp ["words"] (Z8l K))
  (FS:Fn K mg "squares_of" V5 ["word"] fs fds) (GS:Z6 P w K mg base CX0 1 fs fds ["word"] Z4K) (FO:Fn K mg "sheet_of" UI ["right","up"] fo fdo) (GO:Z6 P w K mg base CX0 5 fo fdo ["right","up"] (Z72 K)) :
  Z6 P w K mg base CX0 6 f fd ["text"] Zbx:=by
 refine F.F.ok Ze7 (fun vs H Q E h=>?_) (fun cdv A outer s H vs Q E hr h=>?_)
 ·obtain⟨n,r,u,rfl,_⟩:=h;rfl
 ·obtain⟨n,r,u,rfl,hS,k⟩:=h;have hr1:ZR 1 _:=hr.mono (by decide);have hr2:ZR 2 _:=hr.mono (by decide);have l1:=(ZK.len36 hS).1;have l2:=(ZK.len36 hS).2;refine⟨_,Z5 (ZP (i:=1) Ze7.nd rfl (Or.inl rfl) (Zg PySem.F.plainAttrs_str PySem.F.slot_str_split PySem.F.type_str_split Z94 (pv 0) (Z9 ZH Z8)))
   (Z5 (Zu (Yt (YW (ZU GP hr2 rfl FP.m FP.F.kp FP.b .nil ZX (Z9 (pv 1) Z8)))) Yf Zr)
   (Z1 (ZS (ZU GO hr rfl FO.m FO.F.kp FO.b .nil ZX (Z9 (ZU GS hr1 rfl FS.m FS.F.kp FS.b .nil ZX (Z9 (ZY Zs (pv 1) Z3 (fun _ _=>rfl)) Z8)) (Z9 (ZU GS hr1 rfl FS.m FS.F.kp FS.b .nil ZX (Z9 (ZY Zs (pv 1) Z3 (fun _ _=>rfl)) Z8)) Z8)))))),?_⟩
  refine⟨_,rfl,rfl,_,_,rfl,rfl,by decide,by rw[ZD];simp[YX];omega,fun l hl=>?_⟩;have hsp:Txt.split (txt (ZL r++[32]++ZL u)) (Str.ofString " ")=[txt (ZL r),txt (ZL u)]:=by
   rw[YD];exact ZaR (Tn r) (Tn u)
  rw[hsp];have s1:Z7 H (upd H l (.lst (wv [ZL r,ZL u]))):=Z4 (Z7.refl H) hl;have hw:(upd H l (.lst (wv [ZL r,ZL u]))) l=some (.lst (wv [ZL r,ZL u])):=Z2;refine⟨_,rfl,l,[ZL r,ZL u],rfl,SqL.of hw,?_,fun H2 s2=>?_⟩
  ·intro z hz;rcases Y0k.mp hz with rfl|hz
   ·rw[YX];omega
   ·rw[Y0c.mp hz,YX];omega
  have hok:SE [ZL r,ZL u]=true:=by
   show (decide _&&YC (ZL r)&&YC (ZL u))=true;rw[Zag hS.row hS.pos hS.most,Zag hS.col hS.pos hS.most,YX,YX,hS.row.len,hS.col.len,decide_eq_true rfl];rfl
  refine⟨_,rfl,?_⟩;rw[hok];refine ZG ?_;have hw2:=s2 _ _ hw;refine⟨_,rfl,l,_,0,_,rfl,rfl,SqL.of hw2,ZV (j:=0) rfl,r,rfl,(ZK.lt36 hS).1,by omega,fun H3 p s3 _ hp=>?_⟩;refine⟨_,rfl,l,_,1,_,rfl,rfl,SqL.of (s3 _ _ hw2),ZV (j:=1) rfl,u,rfl,(ZK.lt36 hS).2,by omega,fun H4 q s4 _ hq=>?_⟩;refine⟨p,q,n,r,u,rfl,.inl (SqL.of (s4 _ _ hp)),.inl (SqL.of hq),hS,fun H5 a s5 ha=>?_⟩;exact k H5 a (s1.trans (s2.trans (s3.trans (s4.trans s5)))) ha
end
end K1
namespace Sq
section
variable {n:Nat}{w:List Nat}
theorem Z5B (h:Row n w){x:Nat}(hx:x<n):∀ i,it w (it (back w) x i) i=x
 | 0=>rfl
 | i+1=>by
  have hl:=Y4 h.back hx i;show it w (nx (back w) (it (back w) x i)) (i+1)=x;have e:=Yd (w:=w) (nx (back w) (it (back w) x i)) 1 i;rw[show 1+i=i+1 from by lia]at e;rw[e];show it w (nx w (nx (back w) (it (back w) x i))) i=x;rw[Zdc h hl,Z5B h hx i]
end
section
variable {n:Nat}{r u:List Nat}
end
end Sq
namespace K1
open PySem L2 Sq
def ZfZ:Sp:=fun vs H Q _=>∃ (a:Addr) (n:Nat) (r u:List Nat),vs=[.ref a]/\ZN H a r u/\Row n r/\Row n u/\n<=36/\∀ (H':Hp) (b:Addr),Z7 H H'->ZN H' b (back u) r->Q (.ref b) H'
section
variable {P:Program}{w:World}{K:Y00}{mg:Str->Option Value}{base:Heap}
noncomputable abbrev Zix:List Str:=["sheet"]
theorem Zhf:ZO Zix ["sheet"] (Z0 UA):=⟨rfl,rfl,rfl,by decide +kernel,rfl,by decide +kernel,by decide +kernel⟩
theorem Zg4 {f fb:Addr}{fd db:FuncData}(F:Fn K mg "turned" UA ["sheet"] f fd)(FB:Fn K mg "back_row" W1 ["row"] fb db)(GB:Z6 P w K mg base CX0 1 fb db ["row"] UU):Z6 P w K mg base CX0 2 f fd ["sheet"] ZfZ:=by
 refine F.F.ok Zhf (fun vs H Q E h=>?_) (fun cdv A outer s H vs Q E hr h=>?_)
 ·obtain⟨a,n,r,u,rfl,_⟩:=h;rfl
 ·obtain⟨a,n,r,u,rfl,⟨p,q,h1,h2,h3⟩,rr,ru,hn,k⟩:=h;have hr1:ZR 1 _:=hr.mono (by decide);refine⟨_,(Z1 (ZS (Y2 (Z9 (ZU GB hr rfl FB.m FB.F.kp FB.b .nil ZX (Z9 (ZY ZA (pv 0) Z3 (fun _ _=>rfl)) Z8)) (Z9 (ZY ZA (pv 0) Z3 (fun _ _=>rfl)) Z8))))),?_⟩;refine⟨_,rfl,a,_,1,_,rfl,rfl,SqT.of h1,ZV (j:=1) rfl,q,n,u,rfl,h3,ru,hn,fun H1 l s1 hl=>?_⟩;refine⟨_,rfl,a,_,0,_,rfl,rfl,SqT.of (s1 _ _ h1),ZV (j:=0) rfl,by show 2<=sizeLine;decide,fun b hb=>?_⟩;refine k _ b (Z4 s1 (s1.free hb)) ⟨l,p,Z2,?_,?_⟩
  ·rw[ZZ (Zv hl hb)];exact hl
  ·have:=s1 _ _ h2;rw[ZZ (Zv this hb)];exact this
end
end K1
namespace Sq
noncomputable def shear (n:Nat)(u v:List Nat)(c:Nat):List Nat:=(Y03 n).map fun k=>nx u (it v k c)
theorem UQ {n:Nat}{u v:List Nat}{c k:Nat}(hk:k<n):nx (shear n u v c) k=nx u (it v k c):=by
 have:(Y03 n)[k]?=some k:=by simp[hk]
 exact ZfY this
theorem ZdW {n:Nat}{v:List Nat}(rv:Row n v):∀ c {i j:Nat},i<n->j<n->it v i c=it v j c->i=j
 | 0,_,_,_,_,h=>h
 | c+1,_,_,hi,hj,h=>ZdW rv c hi hj (rv.inj (Y4 rv hi c) (Y4 rv hj c) h)
theorem Z7q {n:Nat}{u v:List Nat}(ru:Row n u)(rv:Row n v)(c:Nat):Row n (shear n u v c):=by
 refine Zeo (by simp[shear]) (fun i hi=>?_) (fun i j hi hj h=>?_)
 ·rw[UQ hi];exact ru.nlt (Y4 rv hi c)
 ·rw[UQ hi,UQ hj]at h;exact ZdW rv c hi hj (ru.inj (Y4 rv hi c) (Y4 rv hj c) h)
section
variable {n:Nat}{r u v E:List Nat}{x0:Nat}
theorem ZaH (rr:Row n r)(hx0:x0<n):∀ q,it r x0 (per n r x0*q)=x0
 | 0=>rfl
 | q+1=>by rw[Nat.mul_succ,Yd,ZaH rr hx0 q,(Vv rr hx0).1]
theorem Zfz (rr:Row n r)(hx0:x0<n){x:Nat}(hx:x∈cyc n r x0)(q:Nat):it r x (per n r x0*q)=x:=by
 obtain⟨i,hi,rfl⟩:=Ws rr hx;rw[<-Yd,Nat.add_comm,Yd,ZaH rr hx0]
theorem Zct (rr:Row n r)(hx0:x0<n){x:Nat}(hx:x∈cyc n r x0):∀ j,it r x j∈cyc n r x0:=fun j=>by
 obtain⟨i,hi,rfl⟩:=Ws rr hx;rw[<-Yd];exact Xz rr hx0 _
end
end Sq
namespace Sq
section
variable {n:Nat}{r u r' u' f E E':List Nat}
end
end Sq
namespace Sq
section
variable {n:Nat}{r u E:List Nat}
end
end Sq
namespace Sq
section
variable {n:Nat}{r u a b a' b' f lt lt':List Nat}
end
end Sq
namespace Sq
section
variable {n:Nat}{r u E E':List Nat}
theorem Zdj (rr:Row n r){x0:Nat}(hx0:x0<n):∀ c,∀ x∈cyc n r x0,it (back r) x c=it r x (c*(per n r x0-1)):=by
 have hp:1<=per n r x0:=by unfold per;lia
 have hlt:∀ y∈cyc n r x0,y<n:=fun y hy=>XO rr hx0 hy;have one:∀ x∈cyc n r x0,nx (back r) x=it r x (per n r x0-1):=fun x hx=>by
  have h1:=Zfz rr hx0 hx 1;rw[Nat.mul_one]at h1;have h2:nx r (it r x (per n r x0-1))=x:=by
   have:it r x (per n r x0-1+1)=x:=(by rw[show per n r x0-1+1=per n r x0 from by lia];exact h1);exact this
  have:=congrArg (nx (back r)) h2;rw[Zf1 rr (Y4 rr (hlt x hx) _)]at this;exact this.symm
 intro c x hx
 induction c with
 | zero=>rw[Nat.zero_mul];rfl
 | succ c ih=>
  show nx (back r) (it (back r) x c)=_;rw[ih,one _ (Zct rr hx0 hx _),<-Yd,Nat.succ_mul]
end
end Sq
namespace Sq
section
variable {n nb:Nat}{r u rb ub m m':List Nat}
end
end Sq
namespace Sq
end Sq
namespace Sq
end Sq
namespace Sq
end Sq
namespace Sq
variable {n:Nat}{r u:List Nat}
theorem Zch (h:Row n r){T:Nat->Prop}(hT:∀ x,x<n->T x->T (nx (back r) x)){x:Nat}(hx:x<n)(tx:T x):T (nx r x):=by
 have hb:=h.back;have all:∀ k,T (it (back r) x k):=by
  intro k
  induction k with
  | zero=>exact tx
  | succ k ih=>exact hT _ (Y4 hb hx k) ih
 have hp:=(Vv hb hx).1;have pos:0<per n (back r) x:=Nat.succ_pos _;obtain⟨k,hk⟩:∃ k,per n (back r) x=k+1:=⟨per n (back r) x-1,by omega⟩;rw[hk]at hp;have hz:=Y4 hb hx k;have e:nx (back r) (it (back r) x k)=x:=hp;rw[VM h hz]at e;have h2:=h.nx_idx hz;rw[e]at h2;rw[h2];exact all k
theorem ZK.up (h:ZK n r u):ZK n r (back u) where
 pos:=h.pos
 most:=h.most
 row:=h.row
 col:=h.col.back
 conn:=fun T t0 hT x hx=>h.conn T t0 (fun y hy ty=>⟨(hT y hy ty).1,Zch h.col (fun z hz tz=>(hT z hz tz).2) hy ty⟩) x hx
end Sq
namespace Sq
section
variable {n nb:Nat}{r u rb ub m:List Nat}
theorem ZK.swap (h:ZK n r u):ZK n u r:=⟨h.pos,h.most,h.col,h.row,fun T h0 hT=>h.conn T h0 fun x hx hx'=>⟨(hT x hx hx').2,(hT x hx hx').1⟩⟩
theorem ZK.turn (h:ZK n r u):ZK n (back u) r:=h.up.swap
end
end Sq
namespace Sq
noncomputable def itz (r:List Nat)(z:Int)(x:Nat):Nat:=if 0<=z then it r x z.toNat else it (back r) x (-z).toNat
section
variable {n:Nat}{r u:List Nat}
theorem Zb9 {x0:Nat}{M:List Nat}(h:Cyc r x0 M):∀ q,it r x0 (M.length*q)=x0
 | 0=>rfl
 | q+1=>by rw[Nat.mul_succ,Yd,Zb9 h q,h.back]
theorem S4 {x0:Nat}{M:List Nat}(h:Cyc r x0 M)(j:Nat):it r x0 (j%M.length)=it r x0 j:=by
 conv=>rhs;rw[<-Nat.div_add_mod j M.length,Yd,Zb9 h]
theorem Uo {x0:Nat}{M:List Nat}(rr:Row n r)(hx:x0<n)(h:Cyc r x0 M)(k:Nat)(z:Int):itz r z (it r x0 k)=it r x0 (((k:Int)+z)%(M.length:Int)).toNat:=by
 have hp:=h.pos;have tn:∀ {j:Nat} {v:Int} {q:Int},(j:Int)=v+(M.length:Int)*q->(v%(M.length:Int)).toNat=j%M.length:=fun {j v q} e=>by
  have:(j:Int)%(M.length:Int)=v%(M.length:Int):=by rw[e,Int.add_mul_emod_self_left]
  omega
 unfold itz
 by_cases hz:0<=z
 ·rw[if_pos hz,<-Yd,tn (j:=k+z.toNat) (q:=0) (by omega),S4 h]
 ·rw[if_neg hz];obtain⟨i,hi⟩:∃ i:Nat,(-z).toNat=i:=⟨_,rfl⟩;rw[hi];have hLi:i<=M.length*i:=Nat.le_mul_of_pos_left i hp;have e1:it r x0 k=it r (it r x0 (k+(M.length*i-i))) i:=by
   rw[<-Yd,show k+(M.length*i-i)+i=k+M.length*i by omega,<-S4 h (k+M.length*i),Nat.add_mul_mod_self_left,S4 h]
  have hlt:=Y4 rr hx (k+(M.length*i-i));have e2:=Z5B rr.back hlt i;rw[Zb2 rr]at e2;rw[e1,e2,tn (j:=k+(M.length*i-i)) (v:=(k:Int)+z) (q:=(i:Int)) (by
   have:((M.length*i:Nat):Int)=(M.length:Int)*(i:Int):=Int.natCast_mul _ _
   omega),S4 h]
theorem Zhj (rr:Row n r){x:Nat}(hx:x<n)(z:Int):itz r z x<n:=by
 unfold itz
 split
 ·exact Y4 rr hx _
 ·exact Y4 rr.back hx _
theorem Zfa (rr:Row n r){x:Nat}(hx:x<n)(a b:Int):itz r a (itz r b x)=itz r (a+b) x:=by
 have h:=YT rr hx;have hp:=h.pos;have e1:=Uo rr hx h 0 b;have e2:=Uo rr hx h 0 (a+b);have e0:it r x 0=x:=rfl;rw[e0]at e1 e2;rw[e1,e2,Uo rr hx h];congr 2;have nn:=Y30 ((0:Nat)+b) (show ((cyc n r x).length:Int)≠0 by omega);rw[Int.toNat_of_nonneg nn,Int.emod_add_emod];congr 1;omega
theorem Zdt (x:Nat):itz r 0 x=x:=rfl
noncomputable def shI (n:Nat)(r u:List Nat)(m:Int):List Nat:=if 0<=-m then shear n u r (-m).toNat else shear n u (back r) m.toNat
theorem Zf8 (rr:Row n r)(ru:Row n u)(m:Int):Row n (shI n r u m):=by
 unfold shI
 split
 ·exact Z7q ru rr _
 ·exact Z7q ru rr.back _
theorem Zhe {m:Int}{x:Nat}(hx:x<n):nx (shI n r u m) x=nx u (itz r (-m) x):=by
 unfold shI itz
 split
 ·rw[UQ hx]
 ·rw[UQ hx,Int.neg_neg]
theorem ZbU (s:ZK n r u)(m:Int):ZK n r (shI n r u m) where
 pos:=s.pos
 most:=s.most
 row:=s.row
 col:=Zf8 s.row s.col m
 conn:=fun T h0 hT=>s.conn T h0 fun x hx hx'=>by
  have rr:=s.row;have ft:∀ c,T (it r x c):=fun c=>by
   induction c with
   | zero=>exact hx'
   | succ c ih=>exact (hT _ (Y4 rr hx c) ih).1
  have fz:∀ z:Int,T (itz r z x):=fun z=>by
   unfold itz
   split
   ·exact ft _
   ·rw[Zdj rr hx _ x (by have:=(YT rr hx).is;have hp:=(YT rr hx).pos;rw[this];exact Y0d.mpr ⟨0,Y08.mpr hp,rfl⟩)];exact ft _
  refine⟨(hT x hx hx').1,?_⟩;have h1:=Zhj rr hx m;have:=(hT _ h1 (fz m)).2
  rwa [Zhe h1,Zfa rr hx,show -m+m=0 by omega,Zdt]at this
noncomputable def tn:Nat->List Nat×List Nat->List Nat×List Nat
 | 0,x=>x
 | k+1,x=>tn k (back x.2,x.1)
theorem ZdX:∀ (j k:Nat) (x:List Nat×List Nat),tn k (tn j x)=tn (j+k) x
 | 0,k,x=>by rw[Nat.zero_add];rfl
 | j+1,k,x=>by rw[show j+1+k=(j+k)+1 by omega];exact ZdX j k _
theorem Z8F:∀ (k:Nat) {x:List Nat×List Nat},ZK n x.1 x.2->ZK n (tn k x).1 (tn k x).2
 | 0,_,h=>h
 | k+1,x,h=>Z8F k (x:=(back x.2,x.1)) h.turn
noncomputable def dd (n:Nat)(k:Nat)(m:Int)(x:List Nat×List Nat):List Nat×List Nat:=
 if k=0 then (x.1,shI n x.1 x.2 m) else if k=1 then tn (m%4).toNat x else if k=2 then (back x.1,x.2) else if k=3 then (x.1,back x.2) else x
theorem Zdg {k:Nat}{m:Int}{x:List Nat×List Nat}(s:ZK n x.1 x.2):ZK n (dd n k m x).1 (dd n k m x).2:=by
 unfold dd
 split
 ·exact ZbU s m
 split
 ·exact Z8F _ s
 split
 ·exact s.swap.up.swap
 split
 ·exact s.up
 ·exact s
end
end Sq
namespace K1
open PySem L2 Sq
noncomputable abbrev S3:Stmt:=X7 Zh2 1
def Z6e (C:Addr):Sp:=fun vs H Q _=>∃ (a c:Addr) (n:Nat) (r u:List Nat) (m:Int),vs=[.ref a,.ref c]/\D1 C H a m/\ZN H c r u/\Row n r/\Row n u/\n<=36/\∀ (H':Hp) (l:Addr),Z7 H H'->ZN H' l (tn (m%4).toNat (r,u)).1 (tn (m%4).toNat (r,u)).2->Q (.ref l) H'
theorem Zb4 {n:Nat}:∀ (k:Nat) {x:List Nat×List Nat},Row n x.1/\Row n x.2->Row n (tn k x).1/\Row n (tn k x).2
 | 0,_,h=>h
 | k+1,x,h=>Zb4 k (x:=(back x.2,x.1)) ⟨h.2.back,h.1⟩
theorem ZbM (k:Nat)(x:List Nat×List Nat):tn (k+1) x=(back (tn k x).2,(tn k x).1):=by
 rw[<-ZdX k 1];rfl
section
variable {P:Program}{w:World}{K:Y00}{mg:Str->Option Value}{base:Heap}
theorem Tv:ZO ["self","sheet","told","once"] ["self","sheet"] (Z0 S3):=⟨rfl,rfl,rfl,by decide +kernel,rfl,by decide +kernel,by decide +kernel⟩
theorem ZbB {f C ft:Addr}{fd dt:FuncData}(TB:Bi mg)(T:DTx K C)(FT:Fn K mg "turned" UA ["sheet"] ft dt)(GT:Z6 P w K mg base CX0 2 ft dt ["sheet"] ZfZ)(F:MFn K C "done" "Turn.done" S3 ["self","sheet"] f fd):Z6 P w K mg base CX0 3 f fd ["self","sheet"] (Z6e C):=by
 refine F.F.ok Tv (fun vs H Q E h=>?_) (fun cdv A outer s H vs Q E hr h=>?_)
 ·obtain⟨a,c,n,r,u,m,rfl,_⟩:=h;rfl
 ·obtain⟨a,c,n,r,u,m,rfl,⟨dp,hp⟩,hc,rr,ru,hn,k⟩:=h;have hr2:ZR 2 _:=hr;refine⟨_,Z5 (ZP (i:=2) Tv.nd rfl (Or.inl rfl) (pv 1))
   (Z5 (YQ PassesOwn.never rfl (X9 rfl TB.range (Z9 (ZJ YF (XR (pv 0) rfl) Z3) Z8)) (ZE (i:=3) Tv.nd rfl (Or.inl rfl)) (Z1 (ZP (i:=2) Tv.nd rfl (Or.inl rfl) (ZU GT hr2 rfl FT.m FT.F.kp FT.b .nil ZX (Z9 (pv 2) Z8)))))
   (Z1 (ZS (pv 2)))),?_⟩
  obtain⟨N,hN⟩:∃ N:Nat,m%4=(N:Int):=⟨(m%4).toNat,by omega⟩;refine⟨_,rfl,_,rfl,a,C,dp,_,_,rfl,hp,T.cl,T.nM,ZaF _,_,_,rfl,rfl,(by show (0:Int)<4;decide),(N:Int),by show [V.int (m%4)]=_;rw[hN],by omega,by omega,?_⟩;rw[Y0q];rw[hN,Y0q]at k;refine WE (n:=N) (fun i σ H2=>∃ (l:Addr) (o:Option V),σ=[some (.ref a),some (.ref c),some (.ref l),o]/\Z7 H H2/\ZN H2 l (tn i (r,u)).1 (tn i (r,u)).2) ⟨c,none,rfl,Z7.refl _,hc⟩ ?_ ?_
  ·rintro i σ H2 hi ⟨l,o,rfl,s2,hl⟩;have rw2:=Zb4 i (x:=(r,u)) ⟨rr,ru⟩;refine⟨_,rfl,l,n,_,_,rfl,hl,rw2.1,rw2.2,hn,fun H3 b s3 hb=>?_⟩;exact⟨b,_,rfl,s2.trans s3,by rw[ZbM];exact hb⟩
  ·rintro σ H2 ⟨l,o,rfl,s2,hl⟩;exact⟨_,rfl,k H2 l s2 hl⟩
end
def Sf:Sp:=fun vs H Q _=>∃ (p:Addr) (n:Nat) (r:List Nat),vs=[.ref p]/\H p=some (.tup (nv r))/\Row n r/\n<=36/\∀ (H':Hp) (l:Addr),Z7 H H'->H l=none->H' l=some (.lst (nv (back r)))->Q (.ref l) H'
theorem rep0 (n:Nat):(Y0p n [V.int 0]).flatten=nv (Y0p n 0):=by
 induction n with
 | zero=>rfl
 | succ n ih=>rw[Y20,Y1u,ih,Y20];rfl
section
variable {P:Program}{w:World}{K:Y00}{mg:Str->Option Value}{base:Heap}
noncomputable abbrev n_ba:List Str:=["_law_row","_law_back_here","_law_at","_law_square"]
theorem Su:ZO n_ba ["_law_row"] (Z0 Wm):=⟨rfl,rfl,rfl,by decide +kernel,rfl,by decide +kernel,by decide +kernel⟩
theorem ZjI {f:Addr}{fd:FuncData}(T:Bi mg)(F:Fn K mg "_law_back" Wm ["_law_row"] f fd):Z6 P w K mg base CX0 1 f fd ["_law_row"] Sf:=by
 refine F.F.ok Su (fun vs H Q E h=>?_) (fun cdv A outer s H vs Q E hr h=>?_)
 ·obtain⟨p,n,r,rfl,_⟩:=h;rfl
 ·obtain⟨p,n,r,rfl,hp,rr,hn,k⟩:=h;refine⟨_,(Z5 (ZP (i:=1) Su.nd rfl (Or.inl rfl) (ZJ Zea (Y8 (Z9 Z3 Z8)) (ZF Zk rfl T.len PySem.boot_len (Z9 (pv 0) Z8))))
   (Z5 (YQ PassesOwn.never rfl (Z91 rfl T.enum (Z9 (pv 0) Z8)) (Uy rfl (YG (ZE (i:=2) Su.nd rfl (Or.inl rfl)) (YG (ZE (i:=3) Su.nd rfl (Or.inl rfl)) Xn))) (Z1 (Z7P (pv 1) (pv 3) (pv 2) rfl)))
   (Z1 (ZS (pv 1))))),?_⟩
  refine⟨(by show 1<=sizeLine;decide),fun l0 hl0=>?_⟩;have s0:=Z4 (o:=.lst [V.int 0]) (Z7.refl H) hl0;refine⟨_,rfl,p,_,rfl,.inr (SqT.of (s0 _ _ hp)),l0,((nv r).length:Int),_,rfl,rfl,Z2,by omega,by rw[ZQ,rr.len];omega,by rw[ZQ,rr.len];exact Y14 (Zj (by show 1*_<=1000;rw[Y0q];omega)),fun lb hlb=>?_⟩;rw[Y0q,ZQ,rr.len,rep0];have Hlb:H lb=none:=s0.free hlb;have s1:=Z4 (o:=.lst (nv (Y0p n 0))) s0 Hlb;refine⟨_,rfl,p,rfl,⟨_,SqT.of (s1 _ _ hp)⟩,SU (xs:=nv r) (fun i σ H2=>∃ o2 o3 bl,σ=[some (.ref p),some (.ref lb),o2,o3]/\Z7 H H2/\H2 lb=some (.lst (nv bl))/\bl.length=n/\∀ k,k<i->bl[nx r k]?=some k)
   ⟨_,_,_,rfl,s1,Z2,Y2v,fun k hk=>absurd hk (Y1w _)⟩ (fun i σ H2 _ ⟨_,_,_,_,s2,_⟩=>SqT.of (s2 _ _ hp)) ?_ ?_⟩
  ·rintro i x σ H2 T' hx hT ⟨o2,o3,bl,rfl,s2,h2,hbl,hall⟩;obtain⟨y,hy,rfl⟩:=VH hx;have hi:i<n:=(by rw[<-rr.len];exact (Y07.mp hy).1);have ey:y=nx r i:=(by have:=rr.get hi;rw[hy]at this;exact Option.some.inj this);have hyn:y<n:=(by rw[ey];exact rr.nlt hi);have h2':(upd H2 T' (Yq T' [.int (i:Int),.int (y:Int)])) lb=some (.lst (nv bl)):=(by rw[ZZ (Zv h2 hT)];exact h2);refine⟨T',_,rfl,Z2,rfl,_,_,rfl,_,_,rfl,rfl,?_⟩;refine⟨_,rfl,_,rfl,_,rfl,lb,_,_,y,rfl,rfl,h2',?_,?_⟩
   ·unfold ixN;rw[if_pos (by omega),if_pos (by rw[ZQ,hbl];omega)];simp
   refine⟨_,_,bl.set y i,rfl,Z4 (Z4 s2 (s2.free hT)) Hlb,by rw[Z2,Zb8],by rw[List.length_set];exact hbl,fun k hk=>?_⟩;rcases Y0x k i with c|c
   ·have hne:y≠nx r k:=fun z=>by
     rw[ey]at z;have:=rr.inj hi (by omega) z;omega
    rw[Y33 hne];exact hall k c
   ·have:k=i:=(by omega);subst this;rw[<-ey,Y2r (by rw[hbl];exact hyn)]
  ·rintro σ H2 ⟨o2,o3,bl,rfl,s2,h2,hbl,hall⟩;rw[ZQ,rr.len]at hall;have e:=Z6B rr hbl hall;subst e;exact⟨_,rfl,k _ lb s2 Hlb h2⟩
end
theorem Z9d {n:Nat}{r u:List Nat}{m:Int}:shI n r u m=(Y03 n).map fun x=>nx u (itz r (-m) x):=by
 unfold shI shear itz
 by_cases h:0<=-m
 ·simp only[if_pos h]
 ·simp only[if_neg h,Int.neg_neg]
def ZdR:Sp:=fun vs H Q _=>∃ (c:Addr) (n:Nat) (r u:List Nat) (m:Int),vs=[.ref c,.int m]/\ZN H c r u/\Row n r/\Row n u/\n<=36/\∀ (H':Hp) (l:Addr),Z7 H H'->ZN H' l r (shI n r u m)->Q (.ref l) H'
theorem ZgB {t rest:L2.TS}{D:YZ}{σ:St}{H:Hp}(Pv:St->Hp->Prop)(h:∀ N:St->Hp->Prop,(∀ σ' H',Pv σ' H'->N σ' H')->t { D with nx:=N } σ H)(k:∀ σ' H',Pv σ' H'->rest D σ' H'):Yh t rest D σ H:=h _ k
section
variable {P:Program}{w:World}{K:Y00}{mg:Str->Option Value}{base:Heap}
noncomputable abbrev Zhk:List Str:=["_law_sheet","_law_often","_law_right","_law_up","_law_told","_law_square","_law_around"]
theorem VN:ZO Zhk ["_law_sheet","_law_often"] (Z0 UZ):=⟨rfl,rfl,rfl,by decide +kernel,rfl,by decide +kernel,by decide +kernel⟩
set_option maxHeartbeats 600000 in
theorem ZeE {f:Addr}{fd:FuncData}(T:Bi mg)(F:Fn K mg "_law_sheared" UZ ["_law_sheet","_law_often"] f fd):Z6 P w K mg base CX0 1 f fd ["_law_sheet","_law_often"] ZdR:=by
 refine F.F.ok VN (fun vs H Q E h=>?_) (fun cdv A outer s H vs Q E hr h=>?_)
 ·obtain⟨c,n,r,u,m,rfl,_⟩:=h;rfl
 ·obtain⟨c,n,r,u,m,rfl,⟨p,q,h1,h2,h3⟩,rr,ru,hn,k⟩:=h;refine⟨_,(Z5 (Za5 (pv 0) (SO rfl (YG (ZE (i:=2) VN.nd rfl (Or.inl rfl)) (YG (ZE (i:=3) VN.nd rfl (Or.inl rfl)) Xn))))
   (Z5 (ZP (i:=4) VN.nd rfl (Or.inl rfl) (ZJ Zea (Y8 (Z9 Z3 Z8)) (ZF Zk rfl T.len PySem.boot_len (Z9 (pv 2) Z8))))
   (Z5 (YQ PassesOwn.never rfl (X9 rfl T.range (Z9 (ZF Zk rfl T.len PySem.boot_len (Z9 (pv 2) Z8)) Z8)) (ZE (i:=5) VN.nd rfl (Or.inl rfl)) (Z5 (ZP (i:=6) VN.nd rfl (Or.inl rfl) (Y8 (Z9 (pv 5) Z8)))
   (Z5 (W3 PassesOwn.never (Zt Vn (ZY ZA (pv 2) (ZY Zs (pv 6) (Ya Yc Z3) (fun _ _=>rfl)) (fun _ _=>rfl)) (pv 5) (Zw _)) (Z1 (Y3 (Zg PySem.F.plainAttrs_list PySem.F.slot_list_append PySem.F.type_list_append YU (pv 6) (Z9 (ZY ZA (pv 2) (ZY Zs (pv 6) (Ya Yc Z3) (fun _ _=>rfl)) (fun _ _=>rfl)) Z8)))))
   (Z1 (Z7P (pv 4) (pv 5) (ZY ZA (pv 3) (ZY Zs (pv 6) (ZJ YF (Ya Yc (pv 1)) (ZF Zk rfl T.len PySem.boot_len (Z9 (pv 6) Z8))) (fun _ _=>rfl)) (fun _ _=>rfl)) rfl)))))
   (Z1 (ZS (Y2 (Z9 (pv 2) (Z9 (Y7 XH rfl T.tuple Yg (Z9 (pv 4) Z8)) Z8)))))))),?_⟩
  have two:2<=sizeLine:=by decide
  refine⟨_,rfl,c,_,rfl,SqT.of h1,rfl,_,_,rfl,_,_,rfl,rfl,?_⟩;refine⟨(by show 1<=sizeLine;decide),fun l0 hl0=>?_⟩;have s0:=Z4 (o:=.lst [V.int 0]) (Z7.refl H) hl0;refine⟨_,rfl,p,_,rfl,.inr (SqT.of (s0 _ _ h2)),l0,((nv r).length:Int),_,rfl,rfl,Z2,by omega,by rw[ZQ,rr.len];omega,by rw[ZQ,rr.len];exact Y14 (Zj (by show 1*_<=1000;rw[Y0q];omega)),fun tl htl0=>?_⟩;rw[Y0q,ZQ,rr.len,rep0];have htl:H tl=none:=s0.free htl0;have sT:=Z4 (o:=.lst (nv (Y0p n 0))) s0 htl;have hT0:(upd (upd H l0 (.lst [V.int 0])) tl (.lst (nv (Y0p n 0)))) tl=some (.lst (nv (Y0p n 0))):=Z2;generalize upd (upd H l0 (.lst [V.int 0])) tl (.lst (nv (Y0p n 0)))=H1 at sT hT0;dsimp only [ZC];refine⟨_,rfl,p,_,rfl,.inr (SqT.of (sT _ _ h2)),(n:Int),by rw[ZQ,rr.len],by omega,by omega,?_⟩;rw[Y0q];refine WE (n:=n) (fun i σ H2=>∃ (o5 o6:Option V),σ=[some (.ref c),some (.int m),some (.ref p),some (.ref q),some (.ref tl),o5,o6]/\Z7 H H2/\H2 tl=some (.lst (nv ((Y03 i).map (fun x=>nx u (itz r (-m) x))++Y0p (n-i) 0)))) ⟨none,none,rfl,sT,by simpa using hT0⟩ ?_ ?_
  ·rintro x σ H2 hx ⟨o5,o6,rfl,s2,h2l⟩;rw[show (0:Int)+(x:Int)=(x:Int) from by omega];refine⟨_,rfl,(by show 1<=sizeLine;decide),fun l hl1=>?_⟩;dsimp only [ZC];refine ZgB (fun σ H5=>∃ M:List Nat,σ=[some (.ref c),some (.int m),some (.ref p),some (.ref q),some (.ref tl),some (.int (x:Int)),some (.ref l)]/\Z7 H2 H5/\H5 l=some (.lst (nv M))/\Cyc r x M) (fun N hN=>?_) ?_
   ·refine WA (fun σ H5=>∃ k,σ=[some (.ref c),some (.int m),some (.ref p),some (.ref q),some (.ref tl),some (.int (x:Int)),some (.ref l)]/\Z7 H2 H5/\H5 l=some (.lst (nv ((Y03 (k+1)).map (it r x))))/\∀ i,1<=i->i<k+1->it r x i≠x) (fun _ H=>muL l H) ?_ ?_ ?_
    ·exact⟨0,rfl,Z4 (Z7.refl H2) hl1,Z2,fun i h1 h2=>absurd h2 (by omega)⟩
    ·rintro σ H5 ⟨kk,rfl,s5,h5,new⟩;have hle:=Wk rr hx new;have hM:((Y03 (kk+1)).map (it r x)).length=kk+1:=(by simp);have hlast:=Z7Q hM (show ((Y03 (kk+1)).map (it r x))[kk]?=some (it r x kk) by simp);have hlt:=Y4 rr hx kk;have e5:=(s2.trans s5) _ _ h2;refine⟨_,rfl,_,rfl,_,rfl,l,_,_,_,rfl,rfl,SqL.of h5,hlast,?_⟩;refine⟨p,_,_,_,rfl,rfl,SqT.of e5,ZV (Zy (rr.get hlt)),?_⟩;refine⟨_,rfl,rfl,_,rfl,?_⟩
     by_cases e:nx r (it r x kk)=x
     ·refine So (by rw[e]) ?_;have hC:Cyc r x ((Y03 (kk+1)).map (it r x)):=⟨by rw[hM];omega,by rw[hM],by rw[hM];exact e,by rw[hM];exact new⟩;exact hN _ _ ⟨_,rfl,s5,h5,hC⟩
     ·rw[decide_eq_false (by intro z;have:=V.int.inj z;exact e (by omega))];refine Zo ?_;refine⟨_,rfl,.inl ⟨rfl,_,SqL.of h5⟩,_,rfl,_,rfl,_,rfl,l,_,_,_,rfl,rfl,SqL.of h5,hlast,?_⟩;refine⟨p,_,_,_,rfl,rfl,SqT.of e5,ZV (Zy (rr.get hlt)),?_⟩;refine⟨l,_,_,rfl,rfl,h5,by rw[ZQ,hM];exact Zj (by omega),?_⟩;have e2:nv ((Y03 (kk+1)).map (it r x))++[.int ((nx r (it r x kk):Nat):Int)]=nv ((Y03 (kk+1+1)).map (it r x)):=by
       rw[XD,Y1i (n:=kk+1),Y0t];rfl
      rw[e2];refine⟨⟨kk+1,rfl,Z4 s5 hl1,Z2,fun i h1 h2'=>?_⟩,?_⟩
      ·rcases Y0x i (kk+1) with c|c
       ·exact new i h1 c
       ·have:i=kk+1:=(by omega);subst this;exact e
      ·rw[VC Z2,VC h5,ZQ,ZQ,hM];simp;omega
    ·rintro σ H Q Q' h ⟨v,e1,v1,e2,v2,e3,a,xs,i,v9,q1,q2,q3,q4,a',xs',i',v',q5,q6,q7,q8,w1,f1,f2,w2,f3,f4⟩;exact⟨v,e1,v1,e2,v2,e3,a,xs,i,v9,q1,q2,q3,q4,a',xs',i',v',q5,q6,q7,q8,w1,f1,f2,w2,f3,h _ _ f4⟩
   rintro σ H5 ⟨M,rfl,s5,h5,hC⟩;have hp:=hC.pos;have h5l:=s5 _ _ h2l;have z0:=Y30 (-m) (show (M.length:Int)≠0 by omega);have z1:=Y3d (-m) (show (0:Int)<(M.length:Int) by omega);obtain⟨j,hj⟩:=Y4c z0;have hjl:j<M.length:=(by omega);have hval:=Uo rr hx hC 0 (-m);have e0:it r x 0=x:=rfl;rw[e0,show ((0:Nat):Int) + -m=-m by omega,hj,show ((j:Int)).toNat=j by omega]at hval;have hMj:M[j]?=some (it r x j):=by
    rw[hC.is];simp[hjl]
   have hlt:=Y4 rr hx j;refine⟨_,rfl,_,rfl,_,rfl,_,rfl,_,rfl,l,_,rfl,.inl (SqL.of h5),_,_,rfl,rfl,(by show (0:Int)<((nv M).length:Int);rw[ZQ];omega),?_⟩;dsimp only;rw[ZQ,hj];refine⟨l,_,_,_,rfl,rfl,SqL.of h5,ZV (Zy hMj),?_⟩;refine⟨q,_,_,_,rfl,rfl,SqT.of ((s2.trans s5) _ _ h3),ZV (Zy (ru.get hlt)),?_⟩;have hlen:((Y03 x).map (fun x=>nx u (itz r (-m) x))++Y0p (n-x) 0).length=n:=(by simp;omega);refine⟨_,rfl,_,rfl,tl,_,_,x,rfl,rfl,h5l,?_,?_⟩
   ·unfold ixN;rw[if_pos (by omega),if_pos (by rw[ZQ,hlen];omega)];simp
   refine⟨_,_,rfl,Z4 (s2.trans s5) htl,?_⟩;rw[Z2,Zb8,<-hval];congr 3;refine Y31 fun i=>?_;rw[List.getElem?_set]
   by_cases ei:x=i
   ·subst ei;rw[if_pos rfl,hlen,if_pos hx,Y0z (by simp)];simp
   ·rw[if_neg ei];rcases Y0x i x with c1|c1
    ·rw[Y0z (by simpa using c1),Y0z (by simp;omega),Y0l,Y0l,Y21 c1,Y21 (by omega)]
    ·rw[Y1q (by simpa using c1),Y1q (by simp;omega)];simp only[Y05,Y0m,Y3a]
     by_cases e2:i<n
     ·rw[if_pos (by omega),if_pos (by omega)]
     ·rw[if_neg (by omega),if_neg (by omega)]
  ·rintro σ H2 ⟨o5,o6,rfl,s2,h2l⟩;rw[Nat.sub_self,List.replicate_zero,Y1h]at h2l;refine⟨_,rfl,_,rfl,tl,_,rfl,.inl ⟨SqL.of h2l,fun t ht=>?_⟩⟩;have s3:=Z4 (o:=.tup (nv ((Y03 n).map fun x=>nx u (itz r (-m) x)))) (Z7.refl H2) ht;refine⟨two,fun b hb=>?_⟩;have s4:=Z4 (o:=.tup [.ref p,.ref t]) (Z7.refl (upd H2 t (.tup (nv ((Y03 n).map fun x=>nx u (itz r (-m) x)))))) hb;refine k _ b (s2.trans (s3.trans s4)) ⟨p,t,Z2,s4 _ _ (s3 _ _ (s2 _ _ h2)),?_⟩;rw[Z9d];exact s4 _ _ Z2
end
end K1
namespace L2
open PySem PySem.Spec PyProof.Rows
section
variable {prog:Program}{w:World}{A:Around}{E:Value->Shared->Prop}{s:Shared}{K:Type}[DecidableEq K]{knd:KeyKind prog w K}
end
section
variable {X:Cx}{pins:List (Addr×Obj)}{σ:St}{H:Hp}{s:Shared}{A:Around}{E:Value->Shared->Prop}{a:Addr}{v:V}{u r:Value}{kvs:List (Key×V)}{k:Key}
end
section
variable {X:Cx}{o e f:Expr}{apos cpos:Pos}{td ty tx:TE}
end
end L2
namespace K1
open PySem L2 Sq
noncomputable abbrev Up:Stmt:=X7 Ze6 1
def Z60 (C:Addr):Sp:=fun vs H Q _=>∃ (a c:Addr) (n:Nat) (r u:List Nat) (m:Int),vs=[.ref a,.ref c]/\D1 C H a m/\ZN H c r u/\Row n r/\Row n u/\n<=36/\∀ (H':Hp) (l:Addr),Z7 H H'->ZN H' l r (shI n r u m)->Q (.ref l) H'
noncomputable def Xc (x:Nat):Key:=Sum.inl (x:Int)
theorem Z9E {kvs:List (Key×V)}{F:List Nat}(h:kvs.map (·.1)=F.map Xc){y:Nat}(hy:y∉F):Zl kvs (Xc y)=none:=by
 cases e:Zl kvs (Xc y) with
 | none=>rfl
 | some v=>
  have:=Z80 e;rw[h]at this;obtain⟨x,hx,ex⟩:=Y0d.mp this;have:x=y:=by have:=Sum.inl.inj ex;omega
  exact absurd (this ▸ hx) hy
section
variable {P:Program}{w:World}{K:Y00}{mg:Str->Option Value}{base:Heap}
noncomputable abbrev Z8r:List Str:=["self","sheet","above","row","k","square"]
theorem UY:ZO Z8r ["self","sheet"] (Z0 Up):=⟨rfl,rfl,rfl,by decide +kernel,rfl,by decide +kernel,by decide +kernel⟩
theorem Zci:(["square","above"]:List Str).Nodup:=by decide +kernel
set_option maxHeartbeats 600000 in
theorem ZaT {f C fc:Addr}{fd dc:FuncData}(T:Bi mg)(TD:DTx K C)(FC:Fn K mg "cycles" XF ["row"] fc dc)(GC:Z6 P w K mg base CX0 2 fc dc ["row"] (UK K))(F:MFn K C "done" "Shear.done" Up ["self","sheet"] f fd):Z6 P w K mg base CX0 3 f fd ["self","sheet"] (Z60 C):=by
 refine F.F.ok UY (fun vs H Q E h=>?_) (fun cdv A outer s H vs Q E hr h=>?_)
 ·obtain⟨a,c,n,r,u,m,rfl,_⟩:=h;rfl
 ·obtain⟨a,c,n,r,u,m,rfl,⟨dp,hp⟩,⟨p,q,h1,h2,h3⟩,rr,ru,hn,k⟩:=h;have hu:=Sx hr;have hr2:ZR 2 _:=hr;refine⟨_,Z5 (ZP (i:=2) UY.nd rfl (Or.inr rfl) Z6g)
   (Z5 (YQ PassesOwn.never rfl (Y5 (ZU GC hr2 rfl FC.m FC.F.kp FC.b .nil ZX (Z9 (ZY ZA (pv 1) Z3 (fun _ _=>rfl)) Z8))) (ZE (i:=3) UY.nd rfl (Or.inl rfl))
    (Z1 (YQ PassesOwn.never rfl (Z8L rfl T.enum (Z9 (pv 3) Z8)) (Uy rfl (YG (ZE (i:=4) UY.nd rfl (Or.inl rfl)) (YG (ZE (i:=5) UY.nd rfl (Or.inl rfl)) Xn)))
     (Z1 (S0 hu (pv 2) (pv 5) (ZY ZA (ZY ZA (pv 1) Z3 (fun _ _=>rfl)) (ZY Zs (pv 3) (ZJ YF (ZJ Wt (pv 4) (XR (pv 0) rfl)) (ZF Zk rfl T.len PySem.boot_len (Z9 (pv 3) Z8))) (fun _ _=>rfl)) (fun _ _=>rfl)) rfl)))))
   (Z1 (ZS (Y2 (Z9 (ZY ZA (pv 1) Z3 (fun _ _=>rfl)) (Z9 (Y7 XH rfl T.tuple Yg (Z9 (Y6 (N:=Z8r) (names:=(Z0 Up).names) (N':=["square","above"]) (k:=1) (pull:=[2]) (te:=(ZfL (ZW 1) (ZW 0))) rfl ⟨by rfl,by decide +kernel,by decide +kernel,by rfl,by decide +kernel,by decide +kernel⟩ rfl rfl (X9 rfl T.range (Z9 (ZF Z7n rfl T.len PySem.boot_len (Z9 (pv 2) Z8)) Z8)) (fun _ _ _ _ _ _=>ZE (i:=0) Zci rfl (Or.inl rfl)) (fun _ _ _ _ _ _=>(Zae hu (pv 1) (pv 0) (fun _ _=>rfl)))) Z8)) Z8)))))),?_⟩
  intro d hd;have s0:Z7 H (upd H d (.dK [])):=Z4 (Z7.refl H) hd;have rl:=Z3p rr;have hnd:(Zp n r).flatten.Nodup:=rl.nodup_iff.mpr Y1y;have hfl:(Zp n r).flatten.length=n:=by rw[rl.length_eq,Y0m]
  refine⟨_,rfl,c,_,0,_,rfl,rfl,SqT.of (s0 _ _ h1),ZV (j:=0) rfl,p,n,r,rfl,.inr (SqT.of (s0 _ _ h2)),rr,hn,fun H1 l as s1 fl hl fr hL=>?_⟩;have e1:H1 d=some (.dK []):=s1 _ _ Z2;have hlen:=hL.len;have ndl:l≠d:=fun e=>by rw[e,Z2]at fl;cases fl
  have s01:=s0.trans s1;have nd1:∀ {b:Addr} {o:HO},H b=some o->b≠d:=fun hb e=>by rw[e,hd]at hb;cases hb
  refine⟨l,rfl,⟨_,SqL.of hl⟩,VW (K:=K) (a:=l) (xs:=rv as) (fun i σ H2=>∃ (o3 o4 o5:Option V) (kvs:List (Key×V)),σ=[some (.ref a),some (.ref c),some (.ref d),o3,o4,o5]/\(∀ b o,b≠d->H1 b=some o->H2 b=some o)/\H2 d=some (.dK kvs)/\kvs.map (·.1)=(((Zp n r).take i).flatten).map Xc/\∀ y∈((Zp n r).take i).flatten,Zl kvs (Xc y)=some (.int ((nx u (itz r (-m) y):Nat):Int))) ⟨none,none,none,[],rfl,fun b o _ h=>h,e1,rfl,fun y h=>absurd h (by simp)⟩ (fun i σ H2 _ ⟨_,_,_,_,_,s2,_⟩=>SqL.of (s2 _ _ ndl hl)) ?_ ?_⟩
  ·rintro i x σ H2 hx ⟨o3,o4,o5,kvs,rfl,s2,h2d,hk,hv⟩;have hi:i<as.length:=by
    have:=(Y07.mp hx).1
    rwa [XY]at this
   have ha:as[i]?=some as[i]:=Y01 hi;generalize as[i]=b at ha;rw[Wu ha]at hx;cases hx;obtain⟨M,hM,hB⟩:=hL.get ha;have nbd:b≠d:=fun e=>by
    have:=fr b (Y0o ha);rw[e,Z2]at this;cases this
   obtain⟨x0,hx0,_,eM⟩:=WI (Y0o hM);have hC:Cyc r x0 M:=(by rw[eM];exact YT rr hx0);have hpos:=hC.pos;have hft:((Zp n r).take (i+1)).flatten=((Zp n r).take i).flatten++M:=by
    rw[Y1v,hM,Y22];simp
   have hsplit:(Zp n r).flatten=((Zp n r).take (i+1)).flatten++((Zp n r).drop (i+1)).flatten:=by
    rw[<-Y22,Y2g]
   generalize hFe:((Zp n r).take i).flatten=Fl at hk hv hft;rw[hft]at hsplit;have hnd2:(Fl++M).Nodup:=(by rw[hsplit]at hnd;exact (Y2m.mp hnd).1);have hlen2:Fl.length+M.length<=36:=by
    have:=congrArg Y1k hsplit;rw[Y09,Y09]at this;omega
   refine⟨_,rfl,b,rfl,⟨_,SqL.of (s2 _ _ nbd hB)⟩,SU (xs:=nv M) (fun j σ H3=>∃ (o4 o5:Option V) (kvs:List (Key×V)),σ=[some (.ref a),some (.ref c),some (.ref d),some (.ref b),o4,o5]/\(∀ b o,b≠d->H1 b=some o->H3 b=some o)/\H3 d=some (.dK kvs)/\kvs.map (·.1)=(Fl++M.take j).map Xc/\∀ y∈Fl++M.take j,Zl kvs (Xc y)=some (.int ((nx u (itz r (-m) y):Nat):Int))) ⟨o4,o5,kvs,rfl,s2,h2d,by rw[List.take_zero,Y1h];exact hk,by rw[List.take_zero,Y1h];exact hv⟩ (fun j σ H3 _ ⟨_,_,_,_,s3,_⟩=>SqL.of (s3 _ _ nbd hB)) ?_ ?_⟩
   ·rintro j v σ H3 T hx hT ⟨o4,o5,kvs3,rfl,s3,h3d,hk3,hv3⟩;obtain⟨y,hy,rfl⟩:=VH hx;have hj:j<M.length:=(Y07.mp hy).1;have ey:y=it r x0 j:=by
     have:=hC.is;rw[this]at hy;simp[hj]at hy;exact hy.symm
    have ndT:d≠T:=Zv h3d hT;have fr4:∀ b' o,b'≠d->H1 b'=some o->(upd H3 T (Yq T [.int (j:Int),.int (y:Int)])) b'=some o:=fun b' o hb' ho=>by
     have:=s3 b' o hb' ho;rw[ZZ (Zv this hT)];exact this
    have h4d:(upd H3 T (Yq T [.int (j:Int),.int (y:Int)])) d=some (.dK kvs3):=(by rw[ZZ ndT];exact h3d);refine⟨T,_,rfl,Z2,rfl,_,_,rfl,_,_,rfl,rfl,?_⟩;generalize upd H3 T (Yq T [.int (j:Int),.int (y:Int)])=H4 at fr4 h4d;have z0:=Y30 ((j:Int)-m) (show (M.length:Int)≠0 by omega);have z1:=Y3d ((j:Int)-m) (show (0:Int)<(M.length:Int) by omega);obtain⟨jj,hjj⟩:=Y4c z0;have hjl:jj<M.length:=(by omega);have hval:=Uo rr hx0 hC j (-m);rw[<-ey,show (j:Int) + -m=(j:Int)-m by omega,hjj,show ((jj:Int)).toNat=jj by omega]at hval;have hMj:M[jj]?=some (it r x0 jj):=(by rw[hC.is];simp[hjl]);have hlt:=Y4 rr hx0 jj;have hny:y∉Fl++M.take j:=by
     have e:Fl++M=(Fl++M.take j)++(y::M.drop (j+1)):=by
      rw[Y2c];congr 1;have e1:y=M[j]:=(by rw[Y01 hj]at hy;exact (Option.some.inj hy).symm);rw[e1,<-Y26 hj,Y2g]
     rw[e]at hnd2;exact fun z=>(Y2m.mp hnd2).2.2 y z y (by simp) rfl
    have hmt:M.take (j+1)=M.take j++[y]:=(by rw[Y1v,hy];rfl);have hvn:=Z9E hk3 hny;have hkl:kvs3.length=(Fl++M.take j).length:=by simpa using congrArg Y1k hk3
    have hkl2:(Fl++M.take j).length<=36:=(by rw[Y09,Y1m];omega);have gB:=fr4 _ _ nbd hB;refine⟨_,rfl,c,_,1,_,rfl,rfl,SqT.of (fr4 _ _ (nd1 h1) (s01 _ _ h1)),ZV (j:=1) rfl,?_⟩;refine⟨_,rfl,_,rfl,_,rfl,a,C,dp,_,_,rfl,fr4 _ _ (nd1 hp) (s01 _ _ hp),TD.cl,TD.nM,ZaF _,_,_,rfl,rfl,_,rfl,b,_,rfl,.inl (SqL.of gB),_,_,rfl,rfl,(by show (0:Int)<((nv M).length:Int);rw[ZQ];omega),?_⟩;dsimp only;rw[ZQ,hjj];refine⟨b,_,_,_,rfl,rfl,SqL.of gB,ZV (Zy hMj),?_⟩;refine⟨q,_,_,_,rfl,rfl,SqT.of (fr4 _ _ (nd1 h3) (s01 _ _ h3)),ZV (Zy (ru.get hlt)),?_⟩;refine⟨_,rfl,_,rfl,d,_,rfl,WN.k (k:=Xc y) h4d (by rw[hkl];exact Zj (by omega)),?_⟩;refine⟨_,_,_,rfl,fun b' o hb' ho=>by rw[ZZ hb'];exact fr4 b' o hb' ho,Z2,?_,fun y' hy'=>?_⟩
    ·rw[Xq _ hvn,Y0t,hk3,hmt];simp
    ·rw[Zdh]
     by_cases e:y'=y
     ·subst e;rw[if_pos rfl,hval]
     ·rw[if_neg (fun z=>e (by have:=Sum.inl.inj z;omega))];refine hv3 y' ?_;rw[hmt,<-Y2c]at hy';rcases Y1d.mp hy' with g|g
      ·exact g
      ·exact absurd (Y0c.mp g) e
   ·rintro σ H3 ⟨o4,o5,kvs3,rfl,s3,h3d,hk3,hv3⟩;rw[ZQ,Y2a]at hk3 hv3;exact⟨_,_,_,kvs3,rfl,s3,h3d,by rw[hft];exact hk3,by rw[hft];exact hv3⟩
  ·rintro σ H2 ⟨o3,o4,o5,kvs,rfl,s2,h2d,hk,hv⟩;rw[XY,hlen,Y2a]at hk hv;have sH:Z7 H H2:=fun b o hb=>s2 _ _ (nd1 hb) (s01 _ _ hb);have hkl:kvs.length=n:=(by have:=congrArg Y1k hk;simp only[Y05]at this;omega);refine⟨_,rfl,c,_,0,_,rfl,rfl,SqT.of (sH _ _ h1),ZV (j:=0) rfl,?_⟩;dsimp only [tCB,ZM,Zx];refine Z7e (m:=n) (rest:=[some (.ref d)]) (fun i=>nx u (itz r (-m) i)) (fun R hR=>⟨_,rfl,d,kvs,rfl,h2d,by rw[hkl];exact hR⟩) rfl (fun i H4 R hi s4 hR=>?_) (by omega) fun H4 dl s4 hd0 hdl=>?_
   ·have hm:=hv i (rl.mem_iff.mpr (Y08.mpr hi));refine⟨_,rfl,_,rfl,d,_,rfl,?_,hR⟩;rw[<-hm];exact X1.k (k:=Xc i) (s4 _ _ h2d)
   ·refine⟨dl,_,rfl,.inl ⟨SqL.of hdl,fun t ht=>?_⟩⟩;rw[<-Z9d]at *;have s5:=Z4 (o:=.tup (nv (shI n r u m))) (Z7.refl H4) ht;refine⟨by show 2<=sizeLine;decide,fun b hb=>?_⟩;have s6:=Z4 (o:=.tup [.ref p,.ref t]) (Z7.refl (upd H4 t (.tup (nv (shI n r u m))))) hb;exact k _ b (sH.trans (s4.trans (s5.trans s6))) ⟨p,t,Z2,s6 _ _ (s5 _ _ (s4 _ _ (sH _ _ h2))),s6 _ _ Z2⟩
end
def ZiS:Sp:=fun vs H Q _=>∃ (a:Addr) (b:Bool) (n:Nat) (r u:List Nat),vs=[.ref a,.bl b]/\ZN H a r u/\Row n r/\Row n u/\n<=36/\∀ (H':Hp) (l:Addr),Z7 H H'->ZN H' l (if b then back r else r) (if b then u else back u)->Q (.ref l) H'
section
variable {P:Program}{w:World}{K:Y00}{mg:Str->Option Value}{base:Heap}
noncomputable abbrev n_mi:List Str:=["sheet","across"]
theorem Zi1:ZO n_mi ["sheet","across"] (Z0 V0):=⟨rfl,rfl,rfl,by decide +kernel,rfl,by decide +kernel,by decide +kernel⟩
theorem Ziy {f fb:Addr}{fd db:FuncData}{dv:Value}(F:FnD K mg "mirrored" V0 ["sheet","across"] (.bl true) f fd dv)(FB:Fn K mg "back_row" W1 ["row"] fb db)(GB:Z6 P w K mg base CX0 1 fb db ["row"] UU):Z6 P w K mg base CX0 2 f fd ["sheet","across"] ZiS:=by
 obtain⟨dV,F⟩:=F.F;refine F.ok Zi1 (fun vs H Q E h=>?_) (fun cdv A outer s H vs Q E hr h=>?_)
 ·obtain⟨a,b,n,r,u,rfl,_⟩:=h;rfl
 ·obtain⟨a,b,n,r,u,rfl,⟨p,q,h1,h2,h3⟩,rr,ru,hn,k⟩:=h;have hr1:ZR 1 _:=hr.mono (by decide);refine⟨_,(Z5 (Zu (YW (pv 1)) (Z1 (ZS (Y2 (Z9 (ZU GB hr rfl FB.m FB.F.kp FB.b .nil ZX (Z9 (ZY ZA (pv 0) Z3 (fun _ _=>rfl)) Z8)) (Z9 (ZY ZA (pv 0) Z3 (fun _ _=>rfl)) Z8))))) Zr)
   (Z1 (ZS (Y2 (Z9 (ZY ZA (pv 0) Z3 (fun _ _=>rfl)) (Z9 (ZU GB hr rfl FB.m FB.F.kp FB.b .nil ZX (Z9 (ZY ZA (pv 0) Z3 (fun _ _=>rfl)) Z8)) Z8)))))),?_⟩
  have two:2<=sizeLine:=by decide
  refine⟨_,rfl,_,rfl,?_⟩;cases b with
  | true=>
   refine Zo ?_;refine⟨_,rfl,a,_,0,_,rfl,rfl,SqT.of h1,ZV (j:=0) rfl,p,n,r,rfl,h2,rr,hn,fun H1 l s1 hl=>?_⟩;refine⟨_,rfl,a,_,1,_,rfl,rfl,SqT.of (s1 _ _ h1),ZV (j:=1) rfl,two,fun b hb=>?_⟩;refine k _ b (Z4 s1 (s1.free hb)) ⟨l,q,Z2,?_,?_⟩
   ·rw[ZZ (Zv hl hb)];exact hl
   ·have:=s1 _ _ h3;rw[ZZ (Zv this hb)];exact this
  | false=>
   refine ZG ?_;refine⟨_,rfl,a,_,0,_,rfl,rfl,SqT.of h1,ZV (j:=0) rfl,?_⟩;refine⟨_,rfl,a,_,1,_,rfl,rfl,SqT.of h1,ZV (j:=1) rfl,q,n,u,rfl,h3,ru,hn,fun H1 l s1 hl=>⟨two,fun b hb=>?_⟩⟩;refine k _ b (Z4 s1 (s1.free hb)) ⟨p,l,Z2,?_,?_⟩
   ·have:=s1 _ _ h2;rw[ZZ (Zv this hb)];exact this
   ·rw[ZZ (Zv hl hb)];exact hl
end
noncomputable abbrev S6:Stmt:=X7 Z6m 0
def Z6d:Sp:=fun vs H Q _=>∃ (a c:Addr) (n:Nat) (r u:List Nat),vs=[.ref a,.ref c]/\ZN H c r u/\Row n r/\Row n u/\n<=36/\∀ (H':Hp) (l:Addr),Z7 H H'->ZN H' l (if true then back r else r) (if true then u else back u)->Q (.ref l) H'
section
variable {P:Program}{w:World}{K:Y00}{mg:Str->Option Value}{base:Heap}
theorem Zbb:ZO ["self","sheet"] ["self","sheet"] (Z0 S6):=⟨rfl,rfl,rfl,by decide +kernel,rfl,by decide +kernel,by decide +kernel⟩
theorem Zcd {f C fm:Addr}{fd dm:FuncData}{dv:Value}(FM:FnD K mg "mirrored" V0 ["sheet","across"] (.bl true) fm dm dv)(GM:Z6 P w K mg base CX0 2 fm dm ["sheet","across"] ZiS)(F:MFn K C "done" "MirrorAcross.done" S6 ["self","sheet"] f fd):Z6 P w K mg base CX0 3 f fd ["self","sheet"] Z6d:=by
 refine F.F.ok Zbb (fun vs H Q E h=>?_) (fun cdv A outer s H vs Q E hr h=>?_)
 ·obtain⟨a,c,n,r,u,rfl,_⟩:=h;rfl
 ·obtain⟨a,c,n,r,u,rfl,hc,rr,ru,hn,k⟩:=h;have hr2:ZR 2 _:=hr;refine⟨_,Z1 (ZS (ZU GM hr2 rfl FM.m FM.kp FM.b .nil ZX (Z9 (pv 1) (Z9 Yy Z8)))),?_⟩;exact⟨_,rfl,c,true,n,r,u,rfl,hc,rr,ru,hn,k⟩
end
noncomputable abbrev SX:Stmt:=X7 ZbS 0
def Z6v:Sp:=fun vs H Q _=>∃ (a c:Addr) (n:Nat) (r u:List Nat),vs=[.ref a,.ref c]/\ZN H c r u/\Row n r/\Row n u/\n<=36/\∀ (H':Hp) (l:Addr),Z7 H H'->ZN H' l (if false then back r else r) (if false then u else back u)->Q (.ref l) H'
section
variable {P:Program}{w:World}{K:Y00}{mg:Str->Option Value}{base:Heap}
theorem Zc5:ZO ["self","sheet"] ["self","sheet"] (Z0 SX):=⟨rfl,rfl,rfl,by decide +kernel,rfl,by decide +kernel,by decide +kernel⟩
theorem ZaX {f C fm:Addr}{fd dm:FuncData}{dv:Value}(FM:FnD K mg "mirrored" V0 ["sheet","across"] (.bl true) fm dm dv)(GM:Z6 P w K mg base CX0 2 fm dm ["sheet","across"] ZiS)(F:MFn K C "done" "MirrorUp.done" SX ["self","sheet"] f fd):Z6 P w K mg base CX0 3 f fd ["self","sheet"] Z6v:=by
 refine F.F.ok Zc5 (fun vs H Q E h=>?_) (fun cdv A outer s H vs Q E hr h=>?_)
 ·obtain⟨a,c,n,r,u,rfl,_⟩:=h;rfl
 ·obtain⟨a,c,n,r,u,rfl,hc,rr,ru,hn,k⟩:=h;have hr2:ZR 2 _:=hr;refine⟨_,Z1 (ZS (ZU GM hr2 rfl FM.m FM.kp FM.b .nil ZX (Z9 (pv 1) (Z9 Yy Z8)))),?_⟩;exact⟨_,rfl,c,false,n,r,u,rfl,hc,rr,ru,hn,k⟩
end
def Dk4 (CS CT CA CU:Addr)(H:Hp)(a:Addr)(kd:Nat)(m:Int):Prop:=(kd=0/\D1 CS H a m)\/(kd=1/\D1 CT H a m)\/(kd=2/\D0 CA H a)\/(kd=3/\D0 CU H a)
theorem Zap {m:Int}{x:Str}(h:¬ x="many"):(TY m).lookup x=none:=by unfold TY;rw[Tx,if_neg h];rfl
noncomputable def ZhG (CS CT CA CU:Addr)(ta:TE)(t:TA):TE:=Sa (WT CS "done" (Z60 CS) [] E0 ta t) (Sa (WT CT "done" (Z6e CT) [] E0 ta t) (Sa (WT CA "done" Z6d [] E0 ta t) (WT CU "done" Z6v [] E0 ta t)))
theorem ZdG {CS CT CA CU:Addr}{ta:TE}{t:TA}{σ:St}{H H0:Hp}{Q:VK}{c:Addr}{n kd:Nat}{m:Int}{r u:List Nat}(hta:∀ R:VK,(∀ (H1:Hp) (b:Addr),Z7 H0 H1->Dk4 CS CT CA CU H1 b kd m->R (.ref b) H1)->ta σ H R)(h5:kd<4)(ht:∀ (H1:Hp) (R:List V->Hp->Prop),R [.ref c] H1->t σ H1 R)(hc:ZN H0 c r u)(rr:Row n r)(ru:Row n u)(hn:n<=36)
  (hQ:∀ (H':Hp) (l:Addr),Z7 H0 H'->ZN H' l (dd n kd m (r,u)).1 (dd n kd m (r,u)).2->Q (.ref l) H'):ZhG CS CT CA CU ta t σ H Q:=by
 rcases (by omega:kd=0\/kd=1\/kd=2\/kd=3) with e|e|e|e<;>subst e
 ·refine .inl (hta _ fun H1 b s1 hb=>?_);obtain⟨dx,h⟩:D1 CS H1 b m:=by rcases hb with ⟨_,h⟩|⟨e,h⟩|⟨e,h⟩|⟨e,h⟩<;>first|exact h|exact absurd e (by decide)
  exact⟨b,dx,_,rfl,h,Zap (by decide +kernel),ht H1 _ ⟨b,c,n,r,u,m,rfl,⟨dx,h⟩,hc.same s1,rr,ru,hn,fun H' l s' hl=>hQ H' l (s1.trans s') hl⟩⟩
 ·refine .inr (.inl (hta _ fun H1 b s1 hb=>?_));obtain⟨dx,h⟩:D1 CT H1 b m:=by rcases hb with ⟨e,h⟩|⟨_,h⟩|⟨e,h⟩|⟨e,h⟩<;>first|exact h|exact absurd e (by decide)
  exact⟨b,dx,_,rfl,h,Zap (by decide +kernel),ht H1 _ ⟨b,c,n,r,u,m,rfl,⟨dx,h⟩,hc.same s1,rr,ru,hn,fun H' l s' hl=>hQ H' l (s1.trans s') hl⟩⟩
 ·refine .inr (.inr (.inl (hta _ fun H1 b s1 hb=>?_)));obtain⟨dx,h⟩:D0 CA H1 b:=by rcases hb with ⟨e,h⟩|⟨e,h⟩|⟨_,h⟩|⟨e,h⟩<;>first|exact h|exact absurd e (by decide)
  exact⟨b,dx,_,rfl,h,rfl,ht H1 _ ⟨b,c,n,r,u,rfl,hc.same s1,rr,ru,hn,fun H' l s' hl=>hQ H' l (s1.trans s') hl⟩⟩
 ·refine .inr (.inr (.inr (hta _ fun H1 b s1 hb=>?_)));obtain⟨dx,h⟩:D0 CU H1 b:=by rcases hb with ⟨e,h⟩|⟨e,h⟩|⟨e,h⟩|⟨_,h⟩<;>first|exact h|exact absurd e (by decide)
  exact⟨b,dx,_,rfl,h,rfl,ht H1 _ ⟨b,c,n,r,u,rfl,hc.same s1,rr,ru,hn,fun H' l s' hl=>hQ H' l (s1.trans s') hl⟩⟩
def Va (kd:Nat)(m:Int)(r u:List Nat)(asked:List V):Prop:=(kd=0/\asked=[.str "shear",.int m])\/(kd=1/\asked=[.str "turn",.int m])\/(kd=2/\asked=[.str "mirror",.str "across"])\/(kd=3/\asked=[.str "mirror",.str "up"])\/(kd=4/\asked=[.str "sheet",.str (txt (ZL r)),.str (txt (ZL u))])
noncomputable def chg (n kd:Nat)(m:Int)(x y:List Nat×List Nat):List Nat×List Nat:=if kd=4 then y else dd n kd m x
def spDi (CS CT CA CU:Addr):Sp:=fun vs H Q _=>∃ (l:Addr) (kd:Nat) (m:Int) (r u:List Nat) (asked:List V),vs=[.ref l]/\H l=some (.lst asked)/\Va kd m r u asked/\kd<4/\∀ (H':Hp) (a:Addr),Z7 H H'->Dk4 CS CT CA CU H' a kd m->Q (.ref a) H'
def spSi:Sp:=fun vs H Q _=>∃ (l:Addr) (n:Nat) (r u:List Nat) (w0:V),vs=[.ref l]/\H l=some (.lst [w0,.str (txt (ZL r)),.str (txt (ZL u))])/\ZK n r u/\∀ (H':Hp) (a:Addr),Z7 H H'->ZN H' a r u->Q (.ref a) H'
def spCh:Sp:=fun vs H Q _=>∃ (a l:Addr) (n n' kd:Nat) (m:Int) (r u r' u':List Nat) (asked:List V),vs=[.ref a,.ref l]/\ZN H a r u/\ZK n r u/\H l=some (.lst asked)/\Va kd m r' u' asked/\(kd=4->ZK n' r' u')/\
 ∀ (H':Hp) (b:Addr),Z7 H H'->ZN H' b (chg n kd m (r,u) (r',u')).1 (chg n kd m (r,u) (r',u')).2->Q (.ref b) H'
section
variable {P:Program}{w:World}{K:Y00}{mg:Str->Option Value}{base:Heap}
noncomputable abbrev n_di:List Str:=["asked"]
theorem Zjs:ZO n_di ["asked"] (Z0 Uw):=⟨rfl,rfl,rfl,by decide +kernel,rfl,by decide +kernel,by decide +kernel⟩
set_option maxHeartbeats 600000 in
theorem Zih {f:Addr}{fd:FuncData}{CS CT CA CU fS fT:Addr}{dS dT:FuncData}(MS:Mk K CS fS)(mS:mg "Shear"=some (.ref CS))(bS:YV K dS ["self","many"] [])(GS:Z6 P w K mg base CX0 1 fS dS ["self","many"] (Ut CS))(MT:Mk K CT fT)(mT:mg "Turn"=some (.ref CT))(bT:YV K dT ["self","many"] [])(GT:Z6 P w K mg base CX0 1 fT dT ["self","many"] (Ut CT))(MA:Mk0 K CA)(mA:mg "MirrorAcross"=some (.ref CA))(MU:Mk0 K CU)(mU:mg "MirrorUp"=some (.ref CU))(F:Fn K mg "deed_in" Uw ["asked"] f fd):Z6 P w K mg base CX0 3 f fd ["asked"] (spDi CS CT CA CU):=by
 refine F.F.ok Zjs (fun vs H Q E h=>?_) (fun cdv A outer s H vs Q E hr h=>?_)
 ·obtain⟨l,kd,m,r,u,asked,rfl,_⟩:=h;rfl
 ·obtain⟨l,kd,m,r,u,asked,rfl,hl,hc,h4,k⟩:=h;have hr2:ZR 2 _:=hr.mono (by decide);refine⟨_,(Z5 (Zu (Zt Ze (ZY Zs (pv 0) Z3 (fun _ _=>rfl)) ZH (Zw _)) (Z1 (ZS (Zbt MS GS hr2 rfl mS bS .nil ZX (Z9 (ZY Zs (pv 0) Z3 (fun _ _=>rfl)) Z8)))) Zr)
   (Z5 (Zu (Zt Ze (ZY Zs (pv 0) Z3 (fun _ _=>rfl)) ZH (Zw _)) (Z1 (ZS (Zbt MT GT hr2 rfl mT bT .nil ZX (Z9 (ZY Zs (pv 0) Z3 (fun _ _=>rfl)) Z8)))) Zr)
   (Z5 (Zu (Zt Ze (ZY Zs (pv 0) Z3 (fun _ _=>rfl)) ZH (Zw _)) (Z1 (ZS (Zen MA rfl mA))) Zr)
   (Z1 (ZS (Zen MU rfl mU)))))),?_⟩
  rcases hc with ⟨rfl,rfl⟩|⟨rfl,rfl⟩|⟨rfl,rfl⟩|⟨rfl,rfl⟩|⟨rfl,_⟩
  ·refine⟨_,rfl,l,_,0,_,rfl,rfl,SqL.of hl,ZV (j:=0) rfl,rfl,_,rfl,?_⟩;rw[veq];refine Zo ⟨_,rfl,l,_,1,_,rfl,rfl,SqL.of hl,ZV (j:=1) rfl,?_⟩;intro x dx nx ndx ne;exact mkD1 nx ndx fun H1 s1 p1=>⟨rfl,k H1 x s1 (.inl ⟨rfl,p1⟩)⟩
  ·refine⟨_,rfl,l,_,0,_,rfl,rfl,SqL.of hl,ZV (j:=0) rfl,rfl,_,rfl,?_⟩;rw[vne (by decide +kernel)];refine ZG ⟨_,rfl,l,_,0,_,rfl,rfl,SqL.of hl,ZV (j:=0) rfl,rfl,_,rfl,?_⟩;rw[veq];refine Zo ⟨_,rfl,l,_,1,_,rfl,rfl,SqL.of hl,ZV (j:=1) rfl,?_⟩;intro x dx nx ndx ne;exact mkD1 nx ndx fun H1 s1 p1=>⟨rfl,k H1 x s1 (.inr (.inl ⟨rfl,p1⟩))⟩
  ·refine⟨_,rfl,l,_,0,_,rfl,rfl,SqL.of hl,ZV (j:=0) rfl,rfl,_,rfl,?_⟩;rw[vne (by decide +kernel)];refine ZG ⟨_,rfl,l,_,0,_,rfl,rfl,SqL.of hl,ZV (j:=0) rfl,rfl,_,rfl,?_⟩;rw[vne (by decide +kernel)];refine ZG ⟨_,rfl,l,_,1,_,rfl,rfl,SqL.of hl,ZV (j:=1) rfl,rfl,_,rfl,?_⟩;rw[veq];refine Zo ?_;exact new0 (fun H1 x s1 p1=>k H1 x s1 (.inr (.inr (.inl ⟨rfl,p1⟩)))) []
  ·refine⟨_,rfl,l,_,0,_,rfl,rfl,SqL.of hl,ZV (j:=0) rfl,rfl,_,rfl,?_⟩;rw[vne (by decide +kernel)];refine ZG ⟨_,rfl,l,_,0,_,rfl,rfl,SqL.of hl,ZV (j:=0) rfl,rfl,_,rfl,?_⟩;rw[vne (by decide +kernel)];refine ZG ⟨_,rfl,l,_,1,_,rfl,rfl,SqL.of hl,ZV (j:=1) rfl,rfl,_,rfl,?_⟩;rw[vne (by decide +kernel)];refine ZG ?_;exact new0 (fun H1 x s1 p1=>k H1 x s1 (.inr (.inr (.inr ⟨rfl,p1⟩)))) []
  ·omega
noncomputable abbrev n_si:List Str:=["asked"]
theorem ZiB:ZO n_si ["asked"] (Z0 UG):=⟨rfl,rfl,rfl,by decide +kernel,rfl,by decide +kernel,by decide +kernel⟩
theorem Zi0 {f fr:Addr}{fd dr:FuncData}(FR:Fn K mg "read" Vg ["text"] fr dr)(GR:Z6 P w K mg base CX0 6 fr dr ["text"] Zbx)(F:Fn K mg "sheet_in" UG ["asked"] f fd):Z6 P w K mg base CX0 7 f fd ["asked"] spSi:=by
 refine F.F.ok ZiB (fun vs H Q E h=>?_) (fun cdv A outer s H vs Q E hr h=>?_)
 ·obtain⟨l,n,r,u,w0,rfl,_⟩:=h;rfl
 ·obtain⟨l,n,r,u,w0,rfl,hl,hS,k⟩:=h;have hr6:ZR 6 _:=hr.mono (by decide);have big:1000<=sizeLine:=by decide
  have l1:=(ZK.len36 hS).1;have l2:=(ZK.len36 hS).2;refine⟨_,Z1 (ZS (ZU GR hr6 rfl FR.m FR.F.kp FR.b .nil ZX (Z9 (ZJ YI (ZJ YI (ZY Zs (pv 0) Z3 (fun _ _=>rfl)) ZH) (ZY Zs (pv 0) Z3 (fun _ _=>rfl))) Z8))),?_⟩;refine⟨_,rfl,l,_,1,_,rfl,rfl,SqL.of hl,ZV (j:=1) rfl,_,_,rfl,rfl,by rw[YD,ZD,ZD,YX];simp;omega,?_⟩;refine⟨_,rfl,l,_,2,_,rfl,rfl,SqL.of hl,ZV (j:=2) rfl,_,_,rfl,rfl,by rw[YD,Zh,ZD,ZD];simp[YX];omega,?_⟩;exact⟨n,r,u,by rw[YD,Zh,Zh];rfl,hS,k⟩
noncomputable abbrev ZiI:List Str:=["sheet","asked"]
theorem ZhH:ZO ZiI ["sheet","asked"] (Z0 UJ):=⟨rfl,rfl,rfl,by decide +kernel,rfl,by decide +kernel,by decide +kernel⟩
theorem ZgG {f fs fi f0 f1 f2 f3:Addr}{fd ds di d0 d1 d2 d3:FuncData}{CS CT CA CU:Addr}(XS:Cls K CS)(XT:Cls K CT)(XA:Cls K CA)(XU:Cls K CU)(F0:MFn K CS "done" "Shear.done" Up ["self","sheet"] f0 d0)(G0:Z6 P w K mg base CX0 3 f0 d0 ["self","sheet"] (Z60 CS))(F1:MFn K CT "done" "Turn.done" S3 ["self","sheet"] f1 d1)(G1:Z6 P w K mg base CX0 3 f1 d1 ["self","sheet"] (Z6e CT))(F2:MFn K CA "done" "MirrorAcross.done" S6 ["self","sheet"] f2 d2)(G2:Z6 P w K mg base CX0 3 f2 d2 ["self","sheet"] Z6d)(F3:MFn K CU "done" "MirrorUp.done" SX ["self","sheet"] f3 d3)(G3:Z6 P w K mg base CX0 3 f3 d3 ["self","sheet"] Z6v)(FSi:Fn K mg "sheet_in" UG ["asked"] fs ds)(GSi:Z6 P w K mg base CX0 7 fs ds ["asked"] spSi)(FDi:Fn K mg "deed_in" Uw ["asked"] fi di)(GDi:Z6 P w K mg base CX0 3 fi di ["asked"] (spDi CS CT CA CU))(F:Fn K mg "changed" UJ ["sheet","asked"] f fd):Z6 P w K mg base CX0 8 f fd ["sheet","asked"] spCh:=by
 refine F.F.ok ZhH (fun vs H Q E h=>?_) (fun cdv A outer s H vs Q E hr h=>?_)
 ·obtain⟨a,l,n,n',kd,m,r,u,r',u',asked,rfl,_⟩:=h;rfl
 ·obtain⟨a,l,n,n',kd,m,r,u,r',u',asked,rfl,ha,hS,hl,hc,h4,k⟩:=h;have hr7:ZR 7 _:=hr.mono (by decide);have hr3:ZR 3 _:=hr.mono (by decide);refine⟨_,(Z5 (Zu (Zt Ze (ZY Zs (pv 1) Z3 (fun _ _=>rfl)) ZH (Zw _)) (Z1 (ZS (ZU GSi hr7 rfl FSi.m FSi.F.kp FSi.b .nil ZX (Z9 (pv 1) Z8)))) Zr)
   (Z1 (ZS (PE.or2 (Xm (ZU GDi hr3 rfl FDi.m FDi.F.kp FDi.b .nil ZX (Z9 (pv 1) Z8)) XS F0.m G0 hr3 F0.b .nil ZX (Z9 (pv 0) Z8)) (PE.or2 (Xm (ZU GDi hr3 rfl FDi.m FDi.F.kp FDi.b .nil ZX (Z9 (pv 1) Z8)) XT F1.m G1 hr3 F1.b .nil ZX (Z9 (pv 0) Z8)) (PE.or2 (Xm (ZU GDi hr3 rfl FDi.m FDi.F.kp FDi.b .nil ZX (Z9 (pv 1) Z8)) XA F2.m G2 hr3 F2.b .nil ZX (Z9 (pv 0) Z8)) (Xm (ZU GDi hr3 rfl FDi.m FDi.F.kp FDi.b .nil ZX (Z9 (pv 1) Z8)) XU F3.m G3 hr3 F3.b .nil ZX (Z9 (pv 0) Z8)))))))),?_⟩
  by_cases e4:kd=4
  ·subst e4;have hS':=h4 rfl;obtain rfl:asked=[.str "sheet",.str (txt (ZL r')),.str (txt (ZL u'))]:=by
    rcases hc with ⟨e,_⟩|⟨e,_⟩|⟨e,_⟩|⟨e,_⟩|⟨_,e⟩
    ·cases e
    ·cases e
    ·cases e
    ·cases e
    ·exact e
   refine⟨_,rfl,l,_,0,_,rfl,rfl,SqL.of hl,ZV (j:=0) rfl,rfl,_,rfl,?_⟩;rw[veq];refine Zo ?_;exact⟨_,rfl,l,n',r',u',_,rfl,hl,hS',k⟩
  ·have hlt:kd<4:=(by rcases hc with ⟨e,_⟩|⟨e,_⟩|⟨e,_⟩|⟨e,_⟩|⟨e,_⟩<;>omega);obtain⟨z,rest,he,hz⟩:∃ z rest,asked=.str z::rest/\z≠Str.ofString "sheet":=by
    rcases hc with ⟨_,rfl⟩|⟨_,rfl⟩|⟨_,rfl⟩|⟨_,rfl⟩|⟨e,_⟩
    ·exact⟨_,_,rfl,by decide +kernel⟩
    ·exact⟨_,_,rfl,by decide +kernel⟩
    ·exact⟨_,_,rfl,by decide +kernel⟩
    ·exact⟨_,_,rfl,by decide +kernel⟩
    ·exact absurd e e4
   refine⟨_,rfl,l,_,0,.str z,rfl,rfl,SqL.of hl,ZV (j:=0) (by rw[he];rfl),rfl,_,rfl,?_⟩;rw[vne hz];refine ZG ?_;refine ZdG (H0:=H) (m:=m) (c:=a) (fun R hR=>⟨_,rfl,l,kd,m,r',u',asked,rfl,hl,hc,hlt,hR⟩) hlt (fun H1 R hR=>⟨_,rfl,hR⟩) ha hS.row hS.col hS.most ?_;unfold chg at k;rw[if_neg e4]at k;exact k
end
end K1
namespace L2
open PySem PySem.Spec PyProof.Rows
section
variable {X:Cx}{CX:CXT}{k:Nat}{f C:Addr}{fd:FuncData}{ps:List Str}{sp:Sp}{dvs:List V}{ds:List Value}{E:XK}{m:Str}{pos apos:Pos}{e o:Expr}{es:List Expr}{ta:TE}{t:TA}{σ:St}
theorem ZcI {pl:Sem Bool}(he:PE X o ta)(c:Cls X.K C)(hm:Vb X.K C m f)(F:Z6 X.prog X.w X.K X.mg X.base CX k f fd ps sp)(hr:ZR k X.A)(hb:YV X.K fd ps ds)(hd:ZT dvs ds)(hx:Z6n CX X E σ)(ha:PA X (e::es) t)
  (hst:starEach (e::es) X.env=(false,eval e X.env)::starEach es X.env:=by rfl) (hpl:(backTo pos (starEach es X.env)).any (·.1)=false:=by rfl)
  (ht:eval (.Call (.Attribute o m apos) (e::es) [] pos) X.env=(do
   let ov <-eval o X.env
   standAt apos.atName
   let (f,first) <-holding [ov] (getMethod ov m pl)
   callWith pos f first (backTo pos (starEach (e::es) X.env)) (backToKw pos (keywordEach [] X.env))):=by rfl) :
  PE1 X σ (.Call (.Attribute o m apos) (e::es) [] pos) (WT C m sp dvs E ta t):=by
 intro pins s H Q I h;refine Y3l (pl:=pl) (thn (he pins s σ H _ I h) fun u s1 ⟨x,H1,I1,rx,a,dx,fs,ex,ea,l,q⟩=>?_) ht;subst ex;obtain rfl:u=Value.ref a:=rx;refine Z49 I1 ea c hm l ?_;refine Y39 (first:=[.ref a]) (h₀:=X.base) I.ok.mod.kin hm.kp (thn (ha pos pins s1 σ H1 _ I1 q) fun us s2 ⟨vs,H2,I2,r,q2⟩=>⟨I2.kIn,?_⟩) hst hpl;have r2:ZT (.ref a::vs++dvs) (.ref a::us++ds):=ZT.append (.cons rfl r) hd;have hl:(Value.ref a::us++ds).length=ps.length:=by rw[<-r2.length];exact F.len _ _ _ _ q2
 refine wpAny_call (codeAny_mono (F.run X.A X.stack s2 H2 ⟨.ref a::us,[]⟩ (.ref a::us++ds) (.ref a::vs++dvs) Q E hr I2.env0 (hb s2 _ I2.kIn hl) r2 q2) fun r s' hq=>?_);cases r with
 | error ev=>exact hx pins H2 s2 ev s' I2 hq
 | ok fl=>
  cases fl with
  | ret u=>exact I2.after hq
  | next=>exact False.elim hq
  | brk=>exact False.elim hq
  | cont=>exact False.elim hq
end
noncomputable def hNo (K:Y00)(A:Addr)(ts:TS)(tr:TH):TH:=fun C d D σ H=>∃ b,Y2o K C (.ref A)=some b/\if b=true then ts D σ H else tr C d D σ H
section
variable {X:Cx}{x:Str}{DA:Addr}{b₀:Stmt}{suite:List Stmt}{ts:TS}{tr:TH}{np hpos pos:Pos}{rest:List ExceptHandler}
theorem Zid (hc:X.calm=true)(hC:HCls X.K DA)(hg:Gl X x)(hm:X.mg x=some (.ref DA))(hs:∀ pn e,PSs (X.su pn e) (b₀::suite) ts)(hr:PH X rest tr)
  (hdb:(x==("__debug__":Str))=false:=by decide):PH X (.ExceptHandler (some (.Name x np)) none (b₀::suite) hpos::rest) (hNo X.K DA ts tr):=by
 intro pins s σ H D C d e hl h;obtain⟨b,hb,h⟩:=h;have I:=hl.inv;have Is:Inv (X.su (X.pn++pins) e) [] σ H s:=I.su;obtain⟨oe,vs,h1,h2,_⟩:∃ o vs,s.heap.get? e=some o/\o.cls=C/\o.dict=d/\o.data=.fields vs/\vs[2]?=some .none:=by
  obtain⟨_,_,_,_,_,_,_,_,⟨oe,vs,T,oT,ts,h1,h2,h3,⟨h4,h5⟩,_⟩,_⟩:=hl.ex;exact⟨oe,vs,h1,h2,h3,h4,h5⟩
 refine wpAny_handleBy_cons (codeAny_handlers_test (Wv Is hg hm ?_ hdb)) (by intro q;cases q);refine Z9u I.kIn h1 h2 hC.ty hC.cl hC.ex hb ?_;cases b with
 | false=>exact hr pins s σ H D C d e hl (by simpa using h)
 | true=>
  have h:ts D σ H:=by simpa using h
  refine codeAny_handlers_suite ?_;obtain⟨Hc,sc,B,f0,I0,ho,hbr,a,xo,hok,u⟩:=hl.ex;refine Z4e (o:=none) a xo fun h2 a2 x2 up=>?_;have hl2:TR X pins σ H C d e { s with heap:=h2 }:=⟨Hc,sc,B,_,I0,ho,hbr,a2,x2,hok,u.up a rfl up⟩;have I2:Inv (X.su (X.pn++pins) e) [] σ H { s with heap:=h2 }:=hl2.inv.su;refine wpAny_mono (hs (X.pn++pins) e [] _ _ _ D I2 h) (fun f s4 hf=>?_) fun _ _ z=>z.elim;have hd:=I.ok.hd hc;cases f with
  | next=>
   obtain⟨σ4,H4,I4,q⟩:=hf;exact⟨_,H4,Inv.unsu hc hd I4,q⟩
  | brk=>
   obtain⟨σ4,H4,I4,q⟩:=hf;exact⟨_,H4,Inv.unsu hc hd I4,q⟩
  | cont=>
   obtain⟨σ4,H4,I4,q⟩:=hf;exact⟨_,H4,Inv.unsu hc hd I4,q⟩
  | ret uv=>
   obtain⟨v,σ4,H4,I4,rv,q⟩:=hf;exact⟨v,_,H4,Inv.unsu hc hd I4,rv,q⟩
end
end L2
namespace K1
open PySem L2 Sq
noncomputable abbrev Zai:Stmt:=X7 Ve 0
noncomputable abbrev Vi:Stmt:=X7 Ve 1
noncomputable abbrev SZ:Stmt:=X7 Ve 2
noncomputable abbrev S7:Stmt:=X7 Ve 3
noncomputable abbrev Sv:Stmt:=X7 Ve 4
noncomputable abbrev SN:Stmt:=X7 Ve 5
noncomputable def YA (c e:Addr):List (Str×V):=[("lying",.ref c),("earlier",.ref e)]
theorem ZdY (c e b:Addr):Za ("lying":Str) (V.ref b) (YA c e)=YA b e:=by
 unfold YA;rw[show Za ("lying":Str) (V.ref b) [("lying",V.ref c),("earlier",V.ref e)]=(if ("lying":Str)=("lying":Str) then [(("lying":Str),V.ref b),("earlier",V.ref e)] else (("lying":Str),V.ref c)::Za ("lying":Str) (V.ref b) [("earlier",V.ref e)]) from rfl,if_pos rfl]
theorem Zhi (c e:Addr):Za ("earlier":Str) (V.ref e) (Za ("lying":Str) (V.ref c) [])=YA c e:=by
 rw[show Za ("earlier":Str) (V.ref e) (Za ("lying":Str) (V.ref c) [])=(if ("lying":Str)=("earlier":Str) then [(("lying":Str),V.ref e)] else (("lying":Str),V.ref c)::[(("earlier":Str),V.ref e)]) from rfl,if_neg (by decide +kernel)];rfl
theorem Uh (c e:Addr):(YA c e).lookup ("lying":Str)=some (V.ref c):=by
 unfold YA;have b1:(("lying":Str)==("lying":Str))=true:=beq_iff_eq.mpr rfl;simp only[Y2h,b1]
theorem SR (c e:Addr):(YA c e).lookup ("earlier":Str)=some (V.ref e):=by
 unfold YA;have b1:(("earlier":Str)==("lying":Str))=false:=beq_eq_false_iff_ne.mpr (by decide +kernel);have b2:(("earlier":Str)==("earlier":Str))=true:=beq_iff_eq.mpr rfl;simp only[Y2h,b1,b2]
theorem W0 {c e:Addr}{x:Str}(h1:¬ x="lying")(h2:¬ x="earlier"):(YA c e).lookup x=none:=by
 unfold YA;have b1:(x==("lying":Str))=false:=beq_eq_false_iff_ne.mpr h1;have b2:(x==("earlier":Str))=false:=beq_eq_false_iff_ne.mpr h2;simp only[Y2h,b1,b2]
structure KTx (K:Y00)(C:Addr):Prop where
 cl:Cls K C
 nL:XX K C "lying"
 nE:XX K C "earlier"
structure Dsk (C:Addr)(H:Hp)(d dx c e:Addr)(as:List Addr):Prop where
 at_:H d=some (.ins C dx (YA c e))
 lst:H e=some (.lst (as.map V.ref))
theorem Dsk.same {C:Addr}{H H':Hp}{d dx c e:Addr}{as:List Addr}(h:Dsk C H d dx c e as)(s:Z7 H H'):Dsk C H' d dx c e as:=⟨s _ _ h.at_,s _ _ h.lst⟩
theorem Dsk.ne {C:Addr}{H:Hp}{d dx c e:Addr}{as:List Addr}(h:Dsk C H d dx c e as):e≠d:=fun z=>by have:=h.lst;rw[z,h.at_]at this;cases this
def Frm (d e:Addr)(H H':Hp):Prop:=∀ b o,b≠d->b≠e->H b=some o->H' b=some o
theorem Frm.of {d e:Addr}{H H':Hp}(s:Z7 H H'):Frm d e H H':=fun b o _ _ h=>s b o h
theorem Frm.trans {d e:Addr}{H H' H'':Hp}(h:Frm d e H H')(k:Frm d e H' H''):Frm d e H H'':=fun b o n1 n2 z=>k b o n1 n2 (h b o n1 n2 z)
theorem Frm.tup {C:Addr}{H H':Hp}{d dx c e:Addr}{as:List Addr}(h:Dsk C H d dx c e as)(s:Frm d e H H'){b:Addr}{xs:List V}(z:H b=some (.tup xs)):H' b=some (.tup xs):=
 s _ _ (fun q=>by rw[q,h.at_]at z;cases z) (fun q=>by rw[q,h.lst]at z;cases z) z
theorem Frm.sh {C:Addr}{H H':Hp}{d dx c e:Addr}{as:List Addr}(h:Dsk C H d dx c e as)(s:Frm d e H H'){b:Addr}{r u:List Nat}(z:ZN H b r u):ZN H' b r u:=
 let ⟨p,q,h1,h2,h3⟩:=z;⟨p,q,s.tup h h1,s.tup h h2,s.tup h h3⟩
noncomputable def WM (C d dx e:Addr)(as:List Addr)(c:Addr)(H:Hp):Hp:=upd (upd H e (.lst (as.map V.ref))) d (.ins C dx (YA c e))
theorem Z8u {C d dx e c:Addr}{as:List Addr}{H:Hp}(ne:e≠d):Dsk C (WM C d dx e as c H) d dx c e as:=⟨Z2,by unfold WM;rw[ZZ ne];exact Z2⟩
theorem S9 {C d dx e c:Addr}{as:List Addr}{H:Hp}:Frm d e H (WM C d dx e as c H):=fun b o n1 n2 z=>by unfold WM;rw[ZZ n1,ZZ n2];exact z
noncomputable def shT (x:List Nat×List Nat):List Nat:=ZL x.1++[32]++ZL x.2
def spKi (C:Addr):Sp:=fun vs H Q _=>∃ (p dx:Addr),vs=[.ref p]/\H p=some (.ins C dx [])/\∀ (H':Hp) (c e:Addr),(∀ x o,x≠p->H x=some o->H' x=some o)->H e=none->Dsk C H' p dx c e []->ZN H' c [0] [0]->Q .non H'
def ZgU (C:Addr):Sp:=fun vs H Q _=>∃ (d dx c e:Addr) (as:List Addr),vs=[.ref d]/\Dsk C H d dx c e as/\Q (.ref c) H
def Zhm (C:Addr):Sp:=fun vs H Q _=>∃ (d dx c e:Addr) (as:List Addr),vs=[.ref d]/\Dsk C H d dx c e as/\Q (.int (as.length:Int)) H
def Zgd (C:Addr):Sp:=fun vs H Q _=>∃ (d dx c e b:Addr) (as:List Addr),vs=[.ref d,.ref b]/\Dsk C H d dx c e as/\as.length<=900/\Q .non (WM C d dx e (as++[c]) b H)
def ZfM (C CN:Addr):Sp:=fun vs H Q E=>∃ (d dx c e:Addr) (as:List Addr),vs=[.ref d]/\Dsk C H d dx c e as/\(as=[]->E (.ref CN) none H)/\∀ as' c',as=as'++[c']->Q .non (WM C d dx e as' c' H)
theorem Zaj:ZK 1 [0] [0] where
 pos:=by decide
 most:=by decide
 row:=by constructor<;>simp
 col:=by constructor<;>simp
 conn:=fun T h0 _ x hx=>by (have:x=0:=(by omega);rw[this];exact h0)
section
variable {P:Program}{w:World}{K:Y00}{mg:Str->Option Value}{base:Heap}
noncomputable abbrev n_Ki:List Str:=["self"]
theorem Zjx:ZO n_Ki ["self"] (Z0 Zai):=⟨rfl,rfl,rfl,by decide +kernel,rfl,by decide +kernel,by decide +kernel⟩
theorem ZiN {f fr C:Addr}{fd dr:FuncData}{tF:Tok}(T:KTx K C)(C_F:mg "FIRST_SHEET"=some (.str "0 0" tF))(FR:Fn K mg "read" Vg ["text"] fr dr)(GR:Z6 P w K mg base CX0 6 fr dr ["text"] Zbx)(F:Fun K "__init__" "Desk.__init__" Zai f fd):Z6 P w K mg base CX0 7 f fd ["self"] (spKi C):=by
 refine F.ok Zjx (fun vs H Q E h=>?_) (fun cdv A outer s H vs Q E hr h=>?_)
 ·obtain⟨p,dx,rfl,_⟩:=h;rfl
 ·obtain⟨p,dx,rfl,hp,k⟩:=h;have hr6:ZR 6 _:=hr;refine⟨_,Z5 (Vw (pv 0) (ZU GR hr6 rfl FR.m FR.F.kp FR.b .nil ZX (Z9 (X6 (v:=.str "0 0") (by rfl) C_F ⟨_,rfl⟩) Z8)) rfl) (Z1 (Vw (pv 0) (Y8 Z8) rfl)),?_⟩;have e0:(Str.ofString "0 0")=txt (ZL [0]++[32]++ZL [0]):=by decide +kernel
  refine⟨1,[0],[0],by rw[e0];rfl,Zaj,fun H1 c s1 hc=>?_⟩;refine⟨_,rfl,p,C,dx,[],rfl,s1 _ _ hp,T.cl,T.nL,(by show 0<1000;decide),?_⟩;refine⟨(by show 0<=sizeLine;decide),fun e he=>?_⟩;have hp1:(upd H1 p (.ins C dx (Za "lying" (.ref c) []))) p=some (.ins C dx (Za "lying" (.ref c) [])):=Z2;have nep:e≠p:=fun z=>by rw[z,hp1]at he;cases he
  have he1:H1 e=none:=by rw[ZZ nep]at he;exact he
  have hp2:(upd (upd H1 p (.ins C dx (Za "lying" (.ref c) []))) e (.lst [])) p=some (.ins C dx (Za "lying" (.ref c) [])):=by rw[ZZ (Ne.symm nep)];exact hp1
  refine⟨_,rfl,p,C,dx,_,rfl,hp2,T.cl,T.nE,(by show 1<1000;decide),?_⟩;rw[Zhi];have fr:∀ x o,x≠p->H1 x=some o->(upd (upd (upd H1 p (.ins C dx (Za "lying" (.ref c) []))) e (.lst [])) p (.ins C dx (YA c e))) x=some o:=fun x o n1 z=>by
   rw[ZZ n1,ZZ (fun q=>by rw[q,he1]at z;cases z),ZZ n1];exact z
  refine k _ c e (fun x o n1 z=>fr x o n1 (s1 _ _ z)) (s1.free he1) ⟨Z2,by rw[ZZ nep];exact Z2⟩ ?_;have nt:∀ {b:Addr} {xs:List V},H1 b=some (.tup xs)->b≠p:=fun z q=>by rw[q,s1 _ _ hp]at z;cases z
  obtain⟨a1,a2,g1,g2,g3⟩:=hc;exact⟨a1,a2,fr _ _ (nt g1) g1,fr _ _ (nt g2) g2,fr _ _ (nt g3) g3⟩
noncomputable abbrev ZiP:List Str:=["self"]
theorem Zhc:ZO ZiP ["self"] (Z0 SZ):=⟨rfl,rfl,rfl,by decide +kernel,rfl,by decide +kernel,by decide +kernel⟩
theorem Zgr {f C:Addr}{fd:FuncData}(T:KTx K C)(F:MFn K C "sheet" "Desk.sheet" SZ ["self"] f fd):Z6 P w K mg base CX0 1 f fd ["self"] (ZgU C):=by
 refine F.F.ok Zhc (fun vs H Q E h=>?_) (fun cdv A outer s H vs Q E hr h=>?_)
 ·obtain⟨d,dx,c,e,as,rfl,_⟩:=h;rfl
 ·obtain⟨d,dx,c,e,as,rfl,hd,k⟩:=h;refine⟨_,Z1 (ZS (XR (pv 0) rfl)),?_⟩;exact⟨_,rfl,d,C,dx,_,_,rfl,hd.at_,T.cl,T.nL,Uh c e,k⟩
noncomputable abbrev Ziw:List Str:=["self"]
theorem ZgT:ZO Ziw ["self"] (Z0 S7):=⟨rfl,rfl,rfl,by decide +kernel,rfl,by decide +kernel,by decide +kernel⟩
theorem ZgQ {f C:Addr}{fd:FuncData}(TB:Bi mg)(T:KTx K C)(F:MFn K C "steps" "Desk.steps" S7 ["self"] f fd):Z6 P w K mg base CX0 1 f fd ["self"] (Zhm C):=by
 refine F.F.ok ZgT (fun vs H Q E h=>?_) (fun cdv A outer s H vs Q E hr h=>?_)
 ·obtain⟨d,dx,c,e,as,rfl,_⟩:=h;rfl
 ·obtain⟨d,dx,c,e,as,rfl,hd,k⟩:=h;refine⟨_,Z1 (ZS (ZF Zk rfl TB.len PySem.boot_len (Z9 (XR (pv 0) rfl) Z8))),?_⟩;refine⟨_,rfl,d,C,dx,_,_,rfl,hd.at_,T.cl,T.nE,SR c e,e,_,rfl,.inl (SqL.of hd.lst),?_⟩;rw[Y05];exact k
noncomputable abbrev Zjp:List Str:=["self","sheet"]
theorem Zhb:ZO Zjp ["self","sheet"] (Z0 Sv):=⟨rfl,rfl,rfl,by decide +kernel,rfl,by decide +kernel,by decide +kernel⟩
theorem Zh0 {f C:Addr}{fd:FuncData}(T:KTx K C)(F:MFn K C "lay" "Desk.lay" Sv ["self","sheet"] f fd):Z6 P w K mg base CX0 1 f fd ["self","sheet"] (Zgd C):=by
 refine F.F.ok Zhb (fun vs H Q E h=>?_) (fun cdv A outer s H vs Q E hr h=>?_)
 ·obtain⟨d,dx,c,e,b,as,rfl,_⟩:=h;rfl
 ·obtain⟨d,dx,c,e,b,as,rfl,hd,hl,k⟩:=h;refine⟨_,Z5 (Y3 (Zg PySem.F.plainAttrs_list PySem.F.slot_list_append PySem.F.type_list_append YU (XR (pv 0) rfl) (Z9 (XR (pv 0) rfl) Z8))) (Z1 (Vw (pv 0) (pv 1) rfl)),?_⟩;refine⟨_,rfl,d,C,dx,_,_,rfl,hd.at_,T.cl,T.nE,SR c e,.inl ⟨rfl,_,SqL.of hd.lst⟩,_,rfl,d,C,dx,_,_,rfl,hd.at_,T.cl,T.nL,Uh c e,e,_,_,rfl,rfl,hd.lst,by rw[Y05];exact Zj (by omega),?_⟩;refine⟨_,rfl,_,rfl,d,C,dx,YA c e,rfl,by rw[ZZ (Ne.symm hd.ne)];exact hd.at_,T.cl,T.nL,(by show 2<1000;decide),?_⟩;rw[ZdY];have em:as.map V.ref++[V.ref c]=(as++[c]).map V.ref:=by simp
  rw[em];exact k
noncomputable abbrev Zii:List Str:=["self"]
theorem Zgh:ZO Zii ["self"] (Z0 SN):=⟨rfl,rfl,rfl,by decide +kernel,rfl,by decide +kernel,by decide +kernel⟩
theorem ZgH {f C CN:Addr}{fd:FuncData}(TB:Bi mg)(hC:Wh K CN)(hCm:mg "NothingDone"=some (.ref CN))(T:KTx K C)(F:MFn K C "undo" "Desk.undo" SN ["self"] f fd):Z6 P w K mg base (CX1 P w) 1 f fd ["self"] (ZfM C CN):=by
 refine F.F.ok1 Zgh (fun vs H Q E h=>?_) (fun cdv A outer s H vs Q E hr h=>?_)
 ·obtain⟨d,dx,c,e,as,rfl,_⟩:=h;rfl
 ·obtain⟨d,dx,c,e,as,rfl,hd,hE,k⟩:=h;refine⟨_,Z5 (Zu (Zt Ze (ZF Zk rfl TB.len PySem.boot_len (Z9 (XR (pv 0) rfl) Z8)) Z3 (Zw _)) (Z1 (Zd3 rfl hC rfl hCm ZgI (Z9 ZH Z8))) Zr)
   (Z1 (Vw (pv 0) (Zg6 PySem.F.plainAttrs_list PySem.F.slot_list_pop PySem.F.type_list_pop ZgK (XR (pv 0) rfl)) rfl)),?_⟩
  refine⟨_,rfl,d,C,dx,_,_,rfl,hd.at_,T.cl,T.nE,SR c e,e,_,rfl,.inl (SqL.of hd.lst),rfl,_,rfl,?_⟩;rw[Y05]
  by_cases z:as=[]
  ·subst z;rw[show decide (V.int (([]:List Addr).length:Int)=V.int 0)=true from decide_eq_true rfl];refine Zo ?_;exact⟨by show 1<=sizeLine;decide,hE rfl⟩
  ·rw[decide_eq_false (fun q=>z (Y1p.mp (by have:=V.int.inj q;omega)))];refine ZG ?_;obtain⟨as',c',rfl⟩:∃ as' c',as=as'++[c']:=⟨as.dropLast,as.getLast z,(Y2t z).symm⟩;refine⟨_,rfl,d,C,dx,_,_,rfl,hd.at_,T.cl,T.nE,SR c e,.inl ⟨rfl,_,SqL.of hd.lst⟩,e,_,.ref c',rfl,rfl,hd.lst,by simp,?_⟩;refine⟨_,rfl,d,C,dx,YA c e,rfl,by rw[ZZ (Ne.symm hd.ne)];exact hd.at_,T.cl,T.nL,(by show 2<1000;decide),?_⟩;rw[ZdY];have em:((as'++[c']).map V.ref).dropLast=as'.map V.ref:=(by simp);rw[em];exact k as' c' rfl
end
theorem Frm.free {C:Addr}{H H':Hp}{d dx c e l:Addr}{as:List Addr}(f:Frm d e H H')(h:Dsk C H' d dx c e as)(z:H' l=none):H l=none:=by
 cases q:H l with
 | none=>rfl
 | some o=>
  by_cases e1:l=d
  ·rw[e1,h.at_]at z;cases z
  by_cases e2:l=e
  ·rw[e2,h.lst]at z;cases z
  rw[f _ _ e1 e2 q]at z;cases z
theorem Z73 {n n' kd:Nat}{m:Int}{r u r' u':List Nat}(s:ZK n r u)(h4:kd=4->ZK n' r' u'):∃ k,ZK k (chg n kd m (r,u) (r',u')).1 (chg n kd m (r,u) (r',u')).2:=by
 unfold chg
 by_cases e:kd=4
 ·rw[if_pos e];exact⟨n',h4 e⟩
 ·rw[if_neg e];exact⟨n,Zdg (x:=(r,u)) s⟩
noncomputable def chs:List Str:=["sheet","shear","turn","mirror"]
theorem Z6i:(chs.map V.str).all Xw=true:=by decide
theorem Va.head {kd:Nat}{m:Int}{r u:List Nat}{asked:List V}(h:Va kd m r u asked):∃ z rest,asked=.str z::rest/\inV (.str z) (chs.map V.str)=true:=by
 rcases h with ⟨_,rfl⟩|⟨_,rfl⟩|⟨_,rfl⟩|⟨_,rfl⟩|⟨_,rfl⟩
 ·exact⟨_,_,rfl,by decide +kernel⟩
 ·exact⟨_,_,rfl,by decide +kernel⟩
 ·exact⟨_,_,rfl,by decide +kernel⟩
 ·exact⟨_,_,rfl,by decide +kernel⟩
 ·exact⟨_,_,rfl,by decide +kernel⟩
theorem Zj7 {j:Nat}(h:j<4):inV (.str (wT j)) (chs.map V.str)=false/\wT j≠Str.ofString "undo":=by
 match j,h with
 | 0,_=>exact⟨by decide +kernel,by decide +kernel⟩
 | 1,_=>exact⟨by decide +kernel,by decide +kernel⟩
 | 2,_=>exact⟨by decide +kernel,by decide +kernel⟩
 | 3,_=>exact⟨by decide +kernel,by decide +kernel⟩
def T6 (kv:List (Key×Value))(K:Y00)(C CN:Addr):Sp:=fun vs H Q E=>∃ (d dx c e:Addr) (as:List Addr) (n:Nat) (r u z:List Nat) (asked:List V),vs=[.ref d,.str (txt z)]/\Dsk C H d dx c e as/\as.length<=900/\ZN H c r u/\ZK n r u/\WW kv K z asked/\
 ((∃ (n' kd:Nat) (m:Int) (r' u':List Nat),Va kd m r' u' asked/\(kd=4->ZK n' r' u')/\∀ (H':Hp) (b l:Addr),Frm d e H H'->Dsk C H' d dx b e (as++[c])->ZN H' b (chg n kd m (r,u) (r',u')).1 (chg n kd m (r,u) (r',u')).2->H l=none->H' l=some (.lst [.str (txt (shT (chg n kd m (r,u) (r',u'))))])->Q (.ref l) H')
 \/(asked=[.str "undo"]/\(as=[]->∀ H':Hp,Z7 H H'->E (.ref CN) none H')/\∀ as' c',as=as'++[c']->∃ (n':Nat) (r' u':List Nat),ZN H c' r' u'/\ZK n' r' u'/\∀ (H':Hp) (l:Addr),Frm d e H H'->Dsk C H' d dx c' e as'->H l=none->H' l=some (.lst [.str (txt (shT (r',u')))])->Q (.ref l) H')
 \/(∃ j:Nat,j<4/\asked=[.str (wT j)]/\∀ (H':Hp) (l:Addr) (zs:List (List Nat)),Z7 H H'->H l=none->H' l=some (.lst (sv zs))->Due n r u j zs->Q (.ref l) H'))
section
variable {P:Program}{w:World}{K:Y00}{mg:Str->Option Value}{base:Heap}
noncomputable abbrev ZhX:List Str:=["self","row","asked"]
theorem ZdT:ZO ZhX ["self","row"] (Z0 Vi):=⟨rfl,rfl,rfl,by decide +kernel,rfl,by decide +kernel,by decide +kernel⟩
set_option maxHeartbeats 1000000 in
theorem ZgW {f ft fl fu fa fs fc C CN aC:Addr}{fd dt dl du da ds dc:FuncData}{kv:List (Key×Value)}(T:KTx K C)(w3A:mg "CHANGES"=some (.ref aC))(w38:TTs K aC chs)(FTs:Fn K mg "things_in" VZ ["row"] ft dt)(GTs:Z6 P w K mg base CX0 4 ft dt ["row"] (spTs kv K))(FLa:MFn K C "lay" "Desk.lay" Sv ["self","sheet"] fl dl)(GLa:Z6 P w K mg base CX0 1 fl dl ["self","sheet"] (Zgd C))(FUn:MFn K C "undo" "Desk.undo" SN ["self"] fu du)(GUn:Z6 P w K mg base (CX1 P w) 1 fu du ["self"] (ZfM C CN))(FAn:Fn K mg "answer" VO ["sheet","asked"] fa da)(GAn:Z6 P w K mg base CX0 10 fa da ["sheet","asked"] spAn)(FCh:Fn K mg "changed" UJ ["sheet","asked"] fc dc)(GCh:Z6 P w K mg base CX0 8 fc dc ["sheet","asked"] spCh)(FSh:Fn K mg "shown" Ug ["sheet"] fs ds)(GSh:Z6 P w K mg base CX0 2 fs ds ["sheet"] ZeD)(F:MFn K C "say" "Desk.say" Vi ["self","row"] f fd):Z6 P w K mg base (CX1 P w) 11 f fd ["self","row"] (T6 kv K C CN):=by
 refine F.F.ok1 ZdT (fun vs H Q E h=>?_) (fun cdv A outer s H vs Q E hr h=>?_)
 ·obtain⟨d,dx,c,e,as,n,r,u,z,asked,rfl,_⟩:=h;rfl
 ·obtain⟨d,dx,c,e,as,n,r,u,z,asked,rfl,hd,h9,hc,hS,hR,hk⟩:=h;have hr1:ZR 1 _:=hr.mono (by decide);have hr2:ZR 2 _:=hr.mono (by decide);have hr4:ZR 4 _:=hr.mono (by decide);have hr8:ZR 8 _:=hr.mono (by decide);have hr10:ZR 10 _:=hr.mono (by decide);have one:1<=sizeLine:=by decide
  refine⟨_,(Z5 (ZP (i:=2) ZdT.nd rfl (Or.inl rfl) (ZU GTs hr4 rfl FTs.m FTs.F.kp FTs.b .nil ZX (Z9 (pv 1) Z8)))
   (Z5 (Zu (Zt UW (ZY Zs (pv 2) Z3 (fun _ _=>rfl)) (X6 (v:=.ref aC) (by rfl) w3A rfl) rfl) (Z1 (Y3 (Xm (pv 0) T.cl FLa.m GLa hr1 FLa.b .nil ZX (Z9 (ZU GCh hr8 rfl FCh.m FCh.F.kp FCh.b .nil ZX (Z9 (XR (pv 0) rfl) (Z9 (pv 2) Z8))) Z8)))) (Z1 (Zu (Zt Ze (ZY Zs (pv 2) Z3 (fun _ _=>rfl)) ZH (Zw _)) (Z1 (Y3 (Z6t (pv 0) T.cl FUn.m GUn hr1 FUn.b .nil (ZiT fun _ _ _ z=>z)))) (Z1 (ZS (ZU GAn hr10 rfl FAn.m FAn.F.kp FAn.b .nil ZX (Z9 (XR (pv 0) rfl) (Z9 (pv 2) Z8))))))))
   (Z1 (ZS (Y8 (Z9 (ZU GSh hr2 rfl FSh.m FSh.F.kp FSh.b .nil ZX (Z9 (XR (pv 0) rfl) Z8)) Z8)))))),?_⟩
  refine⟨_,rfl,z,asked,rfl,hR,fun H1 l s1 hl0 hl=>?_⟩;dsimp only [ZC];have hd1:=hd.same s1;have hc1:=hc.same s1;have fin:∀ (H3:Hp) (b:Addr) (as3:List Addr) (k3:Nat) (y:List Nat×List Nat) (D:YZ),Frm d e H H3->Dsk C H3 d dx b e as3->ZN H3 b y.1 y.2->ZK k3 y.1 y.2->(∀ (H':Hp) (l':Addr),Frm d e H H'->Dsk C H' d dx b e as3->ZN H' b y.1 y.2->H l'=none->H' l'=some (.lst [.str (txt (shT y))])->D.rt (.ref l') H')->
    Xs (ZjJ (ZM (Yz ZeD [] E0 (ZM (tFld K (ZW 0) "lying") Zx)) Zx)) D [some (.ref d),some (.str (txt z)),some (.ref l)] H3:=by
   intro H3 b as3 k3 y D f3 d3 hb3 hS3 k3';refine⟨_,rfl,d,C,dx,_,_,rfl,d3.at_,T.cl,T.nL,Uh b e,b,k3,y.1,y.2,rfl,hb3,hS3,fun H4 s4=>?_⟩;refine⟨one,fun l' hl'=>?_⟩;have s5:=Z4 (o:=.lst [V.str (txt (shT y))]) s4 (s4.free hl');have f5:Frm d e H (upd H4 l' (.lst [V.str (txt (shT y))])):=f3.trans (Frm.of s5);have hn3:H3 l'=none:=s4.free hl';exact k3' _ l' f5 (d3.same s5) (hb3.same s5) (f3.free d3 hn3) Z2
  rcases hk with ⟨n',kd,m,r',u',hCh,h4,k⟩|⟨rfl,hE,k⟩|⟨j,hj,rfl,k⟩
  ·obtain⟨zh,rest,eh,hin⟩:=hCh.head;refine⟨_,rfl,l,_,0,.str zh,rfl,rfl,SqL.of hl,ZV (j:=0) (by rw[eh];rfl),aC,_,rfl,.inr (w38.sq H1),rfl,Z6i,_,rfl,?_⟩;rw[if_neg (by decide),hin];refine Zo ?_;refine⟨_,rfl,d,dx,_,rfl,hd1.at_,W0 (by decide +kernel) (by decide +kernel),?_⟩;refine⟨_,rfl,d,C,dx,_,_,rfl,hd1.at_,T.cl,T.nL,Uh c e,_,rfl,c,l,n,n',kd,m,r,u,r',u',asked,rfl,hc1,hS,hl,hCh,h4,fun H2 b s2 hb=>?_⟩;have hd2:=hd1.same s2;refine⟨d,dx,c,e,b,as,rfl,hd2,h9,?_⟩;obtain⟨k3,hS3⟩:=Z73 (m:=m) hS h4;have f2:Frm d e H (WM C d dx e (as++[c]) b H2):=(Frm.of (s1.trans s2)).trans S9;exact fin _ b (as++[c]) k3 _ _ f2 (Z8u hd.ne) (S9.sh hd2 hb) hS3 fun H' l' f' d' s' hn' hl'=>k H' b l' f' d' s' hn' hl'
  ·refine⟨_,rfl,l,_,0,_,rfl,rfl,SqL.of hl,ZV (j:=0) rfl,aC,_,rfl,.inr (w38.sq H1),rfl,Z6i,_,rfl,?_⟩;rw[if_neg (by decide),show inV (V.str (Str.ofString "undo")) (chs.map V.str)=false from by decide +kernel];refine ZG ?_;refine⟨_,rfl,l,_,0,_,rfl,rfl,SqL.of hl,ZV (j:=0) rfl,rfl,_,rfl,?_⟩;rw[veq];refine Zo ?_;refine⟨_,rfl,d,dx,_,rfl,hd1.at_,W0 (by decide +kernel) (by decide +kernel),d,dx,c,e,as,rfl,hd1,fun ea=>hE ea H1 s1,fun as' c' ea=>?_⟩;obtain⟨n',r',u',hc',hS',k'⟩:=k as' c' ea;have f2:Frm d e H (WM C d dx e as' c' H1):=(Frm.of s1).trans S9;exact fin _ c' as' n' (r',u') _ f2 (Z8u hd.ne) (S9.sh hd1 (hc'.same s1)) hS' fun H' l' f' d' _ hn' hl'=>k' H' l' f' d' hn' hl'
  ·obtain⟨w1,w2⟩:=Zj7 hj;refine⟨_,rfl,l,_,0,_,rfl,rfl,SqL.of hl,ZV (j:=0) rfl,aC,_,rfl,.inr (w38.sq H1),rfl,Z6i,_,rfl,?_⟩;rw[if_neg (by decide),w1];refine ZG ?_;refine⟨_,rfl,l,_,0,_,rfl,rfl,SqL.of hl,ZV (j:=0) rfl,rfl,_,rfl,?_⟩;rw[vne w2];refine ZG ?_;refine⟨_,rfl,d,C,dx,_,_,rfl,hd1.at_,T.cl,T.nL,Uh c e,_,rfl,c,l,n,r,u,j,[],rfl,hc1,hS.row,hS.col,hS.most,hS.pos,hj,hl,fun H2 dd zs s2 hn2 h2 hD=>?_⟩;exact k H2 dd zs (s1.trans s2) (s1.free hn2) h2 hD
theorem ZeY:ZO ["_law_found"] ["_law_found"] (Z0 Vz):=⟨rfl,rfl,rfl,by decide +kernel,rfl,by decide +kernel,by decide +kernel⟩
theorem Zdi {f:Addr}{fd:FuncData}(T:Bi mg)(F:Fn K mg "_law_whole" Vz ["_law_found"] f fd):Z6 P w K mg base CX0 1 f fd ["_law_found"] Ww:=by
 refine F.F.ok ZeY (fun vs H Q E h=>?_) (fun cdv A outer s H vs Q E hr h=>?_)
 ·obtain⟨i,rfl,_⟩:=h;rfl
 ·obtain⟨i,rfl,k⟩:=h;refine⟨_,Z1 (ZS (XN (ZF Xa (by rfl) T.isin W8 (Z9 (pv 0) (Z9 (WZ (v:=.ty "int") (by rfl) T.int Z6s rfl) Z8)))
   (WY (Zef (ZF Xa (by rfl) T.isin W8 (Z9 (pv 0) (Z9 (WZ (v:=.ty "bool") (by rfl) T.bool Z6F rfl) Z8))))))),?_⟩
  refine⟨_,rfl,_,_,_,_,rfl,.int i,Z5g K,_,rfl,?_⟩;refine Zo ?_;exact⟨_,rfl,_,_,_,_,rfl,.int i,Z4k K,_,rfl,k⟩
end
def spIs:Sp:=fun vs H Q _=>∃ (a b:Addr) (n:Nat) (r u:List Nat),vs=[.ref a,.ref b]/\ZN H a r u/\ZN H b r u/\Row n r/\Row n u/\n<=36/\∀ H':Hp,Z7 H H'->Q (.bl true) H'
section
variable {P:Program}{w:World}{K:Y00}{mg:Str->Option Value}{base:Heap}
noncomputable abbrev n_is:List Str:=["_law_found","_law_due","_law_row"]
theorem ZgX:ZO n_is ["_law_found","_law_due"] (Z0 VS):=⟨rfl,rfl,rfl,by decide +kernel,rfl,by decide +kernel,by decide +kernel⟩
theorem ZiO:(["_law_square"]:List Str).Nodup:=by decide +kernel
theorem Zic {f fw:Addr}{fd dw:FuncData}(T:Bi mg)(F:Fn K mg "_law_is_sheet" VS ["_law_found","_law_due"] f fd)(FW:Fn K mg "_law_whole" Vz ["_law_found"] fw dw)(GW:Z6 P w K mg base CX0 1 fw dw ["_law_found"] Ww):Z6 P w K mg base CX0 2 f fd ["_law_found","_law_due"] spIs:=by
 refine F.F.ok ZgX (fun vs H Q E h=>?_) (fun cdv A outer s H vs Q E hr h=>?_)
 ·obtain⟨a,b,n,r,u,rfl,_⟩:=h;rfl
 ·obtain⟨a,b,n,r,u,rfl,ha,hb,rr,ru,hn,k⟩:=h;obtain⟨p,q,h1,h2,h3⟩:=id ha;have hr1:ZR 1 _:=hr.mono (by decide);refine⟨_,(Z5 (Zu (PW.pt (Vp (Yt (YW (ZF Xa rfl T.isin W8 (Z9 (pv 0) (Z9 (WZ (v:=.ty "tuple") rfl T.tuple Yg rfl) Z8))))) (Vp (Zt Vn (ZF Zk rfl T.len PySem.boot_len (Z9 (pv 0) Z8)) Z3 (Zw _)) (SM (Zt Zek (pv 0) (pv 1) (Zw _)))))) (Z1 (ZS Yy)) Zr)
   (Z5 (YQ PassesOwn.never rfl (XQ (pv 0)) (ZE (i:=2) ZgX.nd rfl (Or.inl rfl)) (Z1 (Zu (PW.pt (Vp (Yt (YW (ZF Xa rfl T.isin W8 (Z9 (pv 2) (Z9 (WZ (v:=.ty "tuple") rfl T.tuple Yg rfl) Z8))))) (SM (Yt (YW (ZF (U8 rfl) rfl T.all US (Z9 (Y6 (N:=n_is) (names:=(Z0 VS).names) (N':=["_law_square"]) (k:=1) (pull:=[]) (te:=(Yz Ww [] E0 (ZM (ZW 0) Zx))) rfl ⟨by rfl,by decide +kernel,by decide +kernel,by rfl,by decide +kernel,by decide +kernel⟩ rfl rfl (XQ (pv 2)) (fun _ _ _ _ _ _=>ZE (i:=0) ZiO rfl (Or.inl rfl)) (fun _ _ _ _ _ _=>(ZU GW hr rfl FW.m FW.F.kp FW.b .nil ZX (Z9 (pv 0) Z8)))) Z8))))))) (Z1 (ZS Yy)) Zr)))
   (Z1 (ZS Yy)))),?_⟩
  refine⟨_,rfl,_,_,_,_,rfl,YB.tup h1,Z4O K,_,rfl,?_⟩;refine ZG ?_;refine⟨_,rfl,a,_,rfl,.inr (SqT.of h1),rfl,_,rfl,?_⟩;refine ZG ?_;refine⟨_,rfl,_,rfl,sd _ _,sd _ _,ha.dt,hb.dt,ZdP _ _,ZdP _ _,Ze5 hr (Zdx _ _),_,rfl,?_⟩;show if (!PyData.eqv (sd _ _) (sd _ _))=true then _ else _
  rw[Zgm,decide_eq_true rfl,decide_eq_true rfl];refine ZG ?_;refine⟨_,rfl,a,rfl,⟨_,SqT.of h1⟩,?_⟩;refine Za4 (K:=K) (a:=a) (xs:=[.ref p,.ref q]) (fun i σ H2=>∃ o2,σ=[some (.ref a),some (.ref b),o2]/\Z7 H H2) ⟨_,rfl,Z7.refl _⟩ (fun i σ H2 _ ⟨_,_,s2⟩=>SqT.of (s2 _ _ h1)) ?_ ?_
  ·rintro i x σ H2 hi ⟨o2,rfl,s2⟩;obtain⟨pp,z,rfl,hpp,hz⟩:∃ pp z,x=V.ref pp/\H pp=some (.tup (nv z))/\z.length<=36:=by
    match i,hi with
    | 0,hi=>cases hi;exact⟨p,r,rfl,h2,by rw[rr.len];exact hn⟩
    | 1,hi=>cases hi;exact⟨q,u,rfl,h3,by rw[ru.len];exact hn⟩
    | i+2,hi=>cases hi
   have hpp2:=s2 _ _ hpp;refine⟨_,rfl,_,_,_,_,rfl,YB.tup hpp2,Z4O K,_,rfl,?_⟩;refine ZG ?_;dsimp only [Wf,Yh,TK,TF,tB,tCB,ZM];refine Zbo rfl (SqT.of hpp2) hz fun H3 e s3 he=>?_;refine⟨e,_,rfl,SqL.of he,_,rfl,?_⟩;rw[ZbO];refine ZG ?_;exact⟨_,rfl,s2.trans s3⟩
  ·rintro σ H2 ⟨o2,rfl,s2⟩;exact k H2 s2
end
noncomputable abbrev Y0:Type:=List Nat×List Nat
def Shs (H:Hp):List Addr->List Y0->Prop
 | [],[]=>True
 | a::as,x::xs=>(ZN H a x.1 x.2/\∃ n,ZK n x.1 x.2)/\Shs H as xs
 | _,_=>False
theorem Shs.len {H:Hp}:∀ {as:List Addr} {xs:List Y0},Shs H as xs->as.length=xs.length
 | [],[],_=>rfl
 | [],_::_,h=>h.elim
 | _::_,[],h=>h.elim
 | _::as,_::xs,h=>by rw[Y0f,Y0f,Shs.len h.2]
theorem Shs.mono {H H':Hp}(k:∀ {a:Addr} {r u:List Nat},ZN H a r u->ZN H' a r u):∀ {as:List Addr} {xs:List Y0},Shs H as xs->Shs H' as xs
 | [],[],_=>trivial
 | [],_::_,h=>h.elim
 | _::_,[],h=>h.elim
 | _::as,_::xs,h=>⟨⟨k h.1.1,h.1.2⟩,Shs.mono k h.2⟩
theorem Shs.snoc {H:Hp}:∀ {as:List Addr} {xs:List Y0} {a:Addr} {x:Y0},Shs H as xs->ZN H a x.1 x.2->(∃ n,ZK n x.1 x.2)->Shs H (as++[a]) (xs++[x])
 | [],[],_,_,_,h,hs=>⟨⟨h,hs⟩,trivial⟩
 | [],_::_,_,_,h,_,_=>h.elim
 | _::_,[],_,_,h,_,_=>h.elim
 | _::as,_::xs,_,_,h,h1,hs=>⟨h.1,Shs.snoc h.2 h1 hs⟩
theorem Shs.unsnoc {H:Hp}:∀ {as:List Addr} {xs:List Y0} {x:Y0},Shs H as (xs++[x])->∃ as' a,as=as'++[a]/\Shs H as' xs/\ZN H a x.1 x.2/\∃ n,ZK n x.1 x.2
 | [],[],_,h=>h.elim
 | [],_::_,_,h=>h.elim
 | a::as,[],x,h=>by
  cases as with
  | nil=>exact⟨[],a,rfl,trivial,h.1.1,h.1.2⟩
  | cons b bs=>exact h.2.elim
 | a::as,y::xs,x,h=>by
  obtain⟨as',b,e,h1,h2,h3⟩:=Shs.unsnoc (as:=as) (xs:=xs) (x:=x) h.2;exact⟨a::as',b,by rw[e];rfl,⟨h.1,h1⟩,h2,h3⟩
structure JS (C:Addr)(H:Hp)(d dx e ls:Addr)(c:Addr)(as bs:List Addr)(xs:List Y0)(x:Y0):Prop where
 dk:Dsk C H d dx c e as
 ea:Shs H as xs
 cu:ZN H c x.1 x.2
 sh:∃ n,ZK n x.1 x.2
 st:H ls=some (.lst (bs.map V.ref))
 ss:Shs H bs (xs++[x])
 ne:ls≠e
theorem JS.same {C:Addr}{H H':Hp}{d dx e ls c:Addr}{as bs:List Addr}{xs:List Y0}{x:Y0}(h:JS C H d dx e ls c as bs xs x)(s:Z7 H H'):JS C H' d dx e ls c as bs xs x:=
 ⟨h.dk.same s,h.ea.mono fun z=>z.same s,h.cu.same s,h.sh,s _ _ h.st,h.ss.mono fun z=>z.same s,h.ne⟩
theorem Z5Z {α:Type}(xs:List α)(x:α):atI (xs++[x]) (-1)=some x:=by
 unfold atI ixN;rw[if_neg (by decide),if_pos (by simp;omega)];have:(-1+((xs++[x]).length:Int)).toNat=xs.length:=by simp;omega
 rw[this];simp
theorem ZfA {α:Type}(xs:List α)(x y:α):atI (xs++[x]++[y]) (-2)=some x:=by
 unfold atI ixN;rw[if_neg (by decide),if_pos (by simp;omega)];have:(-2+((xs++[x]++[y]).length:Int)).toNat=xs.length:=by simp;omega
 rw[this];simp
def ZfT (C:Addr):Sp:=fun vs H Q _=>∃ (d dx e ls c:Addr) (as bs:List Addr) (xs:List Y0) (x:Y0),vs=[.ref d,.ref ls]/\JS C H d dx e ls c as bs xs x/\∀ H':Hp,Z7 H H'->Q (.bl true) H'
section
variable {P:Program}{w:World}{K:Y00}{mg:Str->Option Value}{base:Heap}
noncomputable abbrev Zjq:List Str:=["_law_desk","_law_states","_law_many"]
theorem Zej:ZO Zjq ["_law_desk","_law_states"] (Z0 Ue):=⟨rfl,rfl,rfl,by decide +kernel,rfl,by decide +kernel,by decide +kernel⟩
theorem Zhs {f fs ft fw fi C:Addr}{fd ds dt dw di:FuncData}(TB:Bi mg)(T:KTx K C)(FSt:MFn K C "steps" "Desk.steps" S7 ["self"] ft dt)(GSt:Z6 P w K mg base CX0 1 ft dt ["self"] (Zhm C))(FSh:MFn K C "sheet" "Desk.sheet" SZ ["self"] fs ds)(GSh:Z6 P w K mg base CX0 1 fs ds ["self"] (ZgU C))(FW:Fn K mg "_law_whole" Vz ["_law_found"] fw dw)(GW:Z6 P w K mg base CX0 1 fw dw ["_law_found"] Ww)(FI:Fn K mg "_law_is_sheet" VS ["_law_found","_law_due"] fi di)(GI:Z6 P w K mg base CX0 2 fi di ["_law_found","_law_due"] spIs)(F:Fn K mg "_law_lies" Ue ["_law_desk","_law_states"] f fd):Z6 P w K mg base CX0 3 f fd ["_law_desk","_law_states"] (ZfT C):=by
 refine F.F.ok Zej (fun vs H Q E h=>?_) (fun cdv A outer s H vs Q E hr h=>?_)
 ·obtain⟨d,dx,e,ls,c,as,bs,xs,x,rfl,_⟩:=h;rfl
 ·obtain⟨d,dx,e,ls,c,as,bs,xs,x,rfl,J,k⟩:=h;have hr1:ZR 1 _:=hr.mono (by decide);have hr2:ZR 2 _:=hr.mono (by decide);refine⟨_,(Z5 (ZP (i:=2) Zej.nd rfl (Or.inl rfl) (Z6t (pv 0) T.cl FSt.m GSt hr1 FSt.b .nil ZX))
   (Z1 (ZS (XN (ZU GW hr1 rfl FW.m FW.F.kp FW.b .nil ZX (Z9 (pv 2) Z8)) (XN (Ym Ze (pv 2) (ZJ Wt (ZF Zk rfl TB.len PySem.boot_len (Z9 (pv 1) Z8)) Z3) (Zw _)) (WY (ZU GI hr2 rfl FI.m FI.F.kp FI.b .nil ZX (Z9 (Z6t (pv 0) T.cl FSh.m GSh hr1 FSh.b .nil ZX) (Z9 (ZY Zs (pv 1) (Ya Yc Z3) (fun _ _=>rfl)) Z8))))))))),?_⟩
  refine⟨_,rfl,d,dx,_,rfl,J.dk.at_,W0 (by decide +kernel) (by decide +kernel),d,dx,c,e,as,rfl,J.dk,?_⟩;dsimp only [ZC];refine⟨_,rfl,_,rfl,_,rfl,Zo ?_⟩;have l1:=J.ea.len;have l2:=J.ss.len;rw[Y09]at l2;refine⟨_,rfl,_,rfl,ls,_,rfl,.inl (SqL.of J.st),_,_,rfl,rfl,rfl,_,rfl,?_⟩;rw[Y05,decide_eq_true (by congr 1;simp at l2;omega)];refine Zo ?_;obtain⟨bs',b,eb,hb1,hb2,n,hS⟩:=J.ss.unsnoc;refine⟨_,rfl,d,dx,_,rfl,J.dk.at_,W0 (by decide +kernel) (by decide +kernel),d,dx,c,e,as,rfl,J.dk,?_⟩;refine⟨_,rfl,_,rfl,ls,_,_,.ref b,rfl,rfl,SqL.of J.st,by rw[eb,Y0t];exact Z5Z _ _,?_⟩;exact⟨c,b,n,x.1,x.2,rfl,J.cu,hb2,hS.row,hS.col,hS.most,k⟩
end
def spTg (K:Y00):Sp:=fun vs H Q _=>∃ (pr pu:Addr) (n:Nat) (r u:List Nat),vs=[.ref pr,.ref pu]/\X5 K H pr r/\X5 K H pu u/\Row n r/\Row n u/\1<=n/\n<=36/\
 ∀ (H':Hp) (a:Addr) (m:Nat) (r' u':List Nat),Z7 H H'->ZN H' a r' u'->ZK m r' u'->m<=n->Q (.ref a) H'
noncomputable abbrev Zfn (K:Y00):TE:=tBM K "list" Zaw (ZW 2) (ZM (tOp (rIx K) (ZW 1) (ZW 0)) Zx)
theorem Zbr {K:Y00}{Hc:Hp}{pm px:Addr}{x S:List Nat}{n:Nat}{Q:VK}{σ:St}{pull:List Nat}(h2:σ[5]?=some (some (.ref pm)))(hb:bst 1 pull σ=[none,some (.ref px),some (.ref pm)])
  (hx:X5 K Hc px x) (hS:Hc pm=some (.lst (nv S))) (rx:Row n x) (hn:S.length<=36) (hc:∀ y∈S,y<n/\nx x y∈S)
  (k:∀ (H':Hp) (d:Addr),Z7 Hc H'->H' d=some (.lst (nv (Yx x S)))->Q (.ref d) H') :
  YO (Yr K (ZW 5)) 1 pull (ZC 0) (Zfn K) σ Hc Q:=by
 refine⟨_,h2,pm,rfl,⟨_,SqL.of hS⟩,fun d hd=>?_⟩;rw[hb];refine YR (Q:=fun d H'=>Q (.ref d) H') S.length (nv (Yx x S)) (by rw[ZQ,Z7k]) (fun i σ H3=>∃ o,σ=[o,some (.ref px),some (.ref pm)]/\Z7 Hc H3) ⟨_,rfl,Z4 (Z7.refl _) hd⟩ ?_ ?_
 ·rintro i σ H3 hi ⟨o,rfl,s3⟩ hd3;have hS3:=SqL.of (K:=K) (s3 _ _ hS);refine⟨⟨_,_,hS3,Zy (Y01 hi)⟩,fun y H4 ⟨e,hy⟩=>?_⟩;subst e;have hy:=hy _ hS3;rw[Zy (Y01 hi)]at hy;cases hy;have hm:S[i]∈S:=Y15 hi;refine⟨_,rfl,.inl ⟨rfl,_,hS3⟩,_,rfl,_,rfl,T1 (hx.same s3) rx (hc _ hm).1 ?_⟩;refine⟨pm,S,_,rfl,rfl,s3 _ _ hS,(hc _ hm).2,?_⟩;refine YN hi (by omega) hd3 (Zy ?_) ⟨_,rfl,Z4 s3 hd⟩;unfold Yx;rw[Y0l,Y01 hi]
  rfl
 ·rintro σ H3 ⟨o,rfl,s3⟩ hd3;exact⟨⟨_,SqL.of (s3 _ _ hS),by rw[ZQ];exact Y04 _⟩,k H3 d s3 hd3⟩
section
variable {P:Program}{w:World}{K:Y00}{mg:Str->Option Value}{base:Heap}
noncomputable abbrev ZiF:List Str:=["_law_right","_law_up","_law_met","_law_at","_law_square","_law_kept"]
theorem Vq:ZO ZiF ["_law_right","_law_up"] (Z0 WH):=⟨rfl,rfl,rfl,by decide +kernel,rfl,by decide +kernel,by decide +kernel⟩
theorem Zjd:(["_law_k","_law_up","_law_kept"]:List Str).Nodup:=by decide +kernel
theorem Zg3:(["_law_k","_law_right","_law_kept"]:List Str).Nodup:=by decide +kernel
theorem Zjw {f:Addr}{fd:FuncData}(T:Bi mg)(F:Fn K mg "_law_together" WH ["_law_right","_law_up"] f fd):Z6 P w K mg base CX0 1 f fd ["_law_right","_law_up"] (spTg K):=by
 refine F.F.ok Vq (fun vs H Q E h=>?_) (fun cdv A outer s H vs Q E hr h=>?_)
 ·obtain⟨pr,pu,n,r,u,rfl,_⟩:=h;rfl
 ·obtain⟨pr,pu,n,r,u,rfl,hR,hU,rr,ru,h1,hn,k⟩:=h;refine⟨_,(Z5 (ZP (i:=2) Vq.nd rfl (Or.inl rfl) (Y8 (Z9 Z3 Z8)))
   (Z5 (ZP (i:=3) Vq.nd rfl (Or.inl rfl) Z3)
   (Z5 (W3 PassesOwn.never (Zt Vo (pv 3) (ZF Zk rfl T.len PySem.boot_len (Z9 (pv 2) Z8)) (Zw _)) (Z5 (YQ PassesOwn.never rfl (XQ (Y2 (Z9 (ZY Vu (pv 0) (ZY Zs (pv 2) (pv 3) (fun _ _=>rfl)) (fun _ _=>rfl)) (Z9 (ZY Vu (pv 1) (ZY Zs (pv 2) (pv 3) (fun _ _=>rfl)) (fun _ _=>rfl)) Z8)))) (ZE (i:=4) Vq.nd rfl (Or.inl rfl)) (Z1 (Zu (Zt Z2F (pv 4) (pv 2) rfl) (Z1 (Y3 (Zg PySem.F.plainAttrs_list PySem.F.slot_list_append PySem.F.type_list_append YU (pv 2) (Z9 (pv 4) Z8)))) Zr)))
   (Z1 (ZP (i:=3) Vq.nd rfl (Or.inl rfl) (ZJ Xf (pv 3) Z3)))))
   (Z5 (ZP (i:=5) Vq.nd rfl (Or.inr rfl) (ZF (U2 rfl) rfl T.sorted V7 (Z9 (pv 2) Z8)))
   (Z1 (ZS (Y2 (Z9 (Y7 XH rfl T.tuple Yg (Z9 (Y6 (N:=ZiF) (names:=(Z0 WH).names) (N':=["_law_k","_law_right","_law_kept"]) (k:=1) (pull:=[0,5]) (te:=(Zfn K)) rfl ⟨by rfl,by decide +kernel,by decide +kernel,by rfl,by decide +kernel,by decide +kernel⟩ rfl rfl (Y5 (pv 5)) (fun _ _ _ _ _ _=>ZE (i:=0) Zg3 rfl (Or.inl rfl)) (fun _ _ _ _ _ _=>(Zg PySem.F.plainAttrs_list PySem.F.slot_list_index PySem.F.type_list_index Z7i (pv 2) (Z9 (ZY Vu (pv 1) (pv 0) (fun _ _=>rfl)) Z8)))) Z8)) (Z9 (Y7 XH rfl T.tuple Yg (Z9 (Y6 (N:=ZiF) (names:=(Z0 WH).names) (N':=["_law_k","_law_up","_law_kept"]) (k:=1) (pull:=[1,5]) (te:=(Zfn K)) rfl ⟨by rfl,by decide +kernel,by decide +kernel,by rfl,by decide +kernel,by decide +kernel⟩ rfl rfl (Y5 (pv 5)) (fun _ _ _ _ _ _=>ZE (i:=0) Zjd rfl (Or.inl rfl)) (fun _ _ _ _ _ _=>(Zg PySem.F.plainAttrs_list PySem.F.slot_list_index PySem.F.type_list_index Z7i (pv 2) (Z9 (ZY Vu (pv 1) (pv 0) (fun _ _=>rfl)) Z8)))) Z8)) Z8))))))))),?_⟩
  refine⟨(by show 1<=sizeLine;decide),fun l hl=>?_⟩;refine WA (fun σ H2=>∃ (M:List Nat) (k:Nat) (o4:Option V),σ=[some (.ref pr),some (.ref pu),some (.ref l),some (.int (k:Int)),o4,none]/\Z7 H H2/\H2 l=some (.lst (nv M))/\Met n r u 0 M k) (fun σ _=>mu 3 σ) ?_ ?_ ?_
  ·exact⟨[0],0,_,rfl,Z4 (Z7.refl H) hl,Z2,Met.start h1⟩
  ·rintro σ H2 ⟨M,kk,o4,rfl,s2,h2l,hM⟩;refine⟨_,rfl,_,rfl,l,_,rfl,.inl (SqL.of h2l),_,_,rfl,rfl,_,rfl,?_⟩;rw[ZQ];refine Yv (fun hlt=>?_) (fun hge=>?_)
   ·have hlt:(kk:Int)<(M.length:Int):=of_decide_eq_true hlt;have hk:kk<M.length:=(by omega);have hx:M[kk]?=some M[kk]:=Y01 hk;have hxn:M[kk]<n:=hM.lt _ (Y15 hk);have hMl:=hM.len;refine⟨_,rfl,_,rfl,_,rfl,l,_,_,_,rfl,rfl,SqL.of h2l,ZV (Zy hx),T1 (hR.same s2) rr hxn ?_⟩;refine⟨_,rfl,_,rfl,_,rfl,l,_,_,_,rfl,rfl,SqL.of h2l,ZV (Zy hx),T1 (hU.same s2) ru hxn ?_⟩;refine⟨(by show 2<=sizeLine;decide),fun tp htp=>⟨tp,rfl,⟨_,SqT.of Z2⟩,?_⟩⟩;have nlt:l≠tp:=Zv h2l htp;refine Za4 (K:=K) (a:=tp) (xs:=[.int (nx r M[kk]:Int),.int (nx u M[kk]:Int)]) (fun i σ H3=>∃ (o4:Option V),σ=[some (.ref pr),some (.ref pu),some (.ref l),some (.int (kk:Int)),o4,none]/\Z7 H H3/\H3 tp=some (.tup [.int (nx r M[kk]:Int),.int (nx u M[kk]:Int)])/\
     H3 l=some (.lst (nv (([nx r M[kk],nx u M[kk]].take i).foldl put M)))) ?_ ?_ ?_ ?_
    ·refine⟨_,rfl,Z4 s2 (s2.free htp),Z2,by rw[ZZ nlt];exact h2l⟩
    ·rintro i σ H3 hi ⟨_,_,_,h3,_⟩;exact SqT.of h3
    ·rintro i x σ H3 hi ⟨o4,rfl,s3,h3,h3l⟩;obtain⟨y,ey,rfl⟩:=VH (xs:=[nx r M[kk],nx u M[kk]]) hi;have hi2:i<2:=(Y07.mp ey).1;have hlen:=Z3P ([nx r M[kk],nx u M[kk]].take i) M;have htk:([nx r M[kk],nx u M[kk]].take i).length<=2:=(by rw[Y1m];exact Nat.min_le_right _ _);have hfold:([nx r M[kk],nx u M[kk]].take (i+1)).foldl put M=put (([nx r M[kk],nx u M[kk]].take i).foldl put M) y:=by
      rw[Y1v,ey,List.foldl_append];rfl
     rw[hfold];generalize hM':([nx r M[kk],nx u M[kk]].take i).foldl put M=M' at h3l hlen;refine⟨_,rfl,_,rfl,l,_,rfl,.inl (SqL.of h3l),rfl,VL _,_,rfl,?_⟩;show (if (!inV (.int (y:Int)) (nv M'))=true then _ else _);rw[Vx]
     by_cases hy:y∈M'
     ·rw[decide_eq_true hy];refine ZG ?_;refine⟨_,rfl,s3,h3,?_⟩;unfold put;rw[if_pos hy];exact h3l
     ·rw[decide_eq_false hy];refine Zo ?_;refine⟨_,rfl,.inl ⟨rfl,_,SqL.of h3l⟩,_,rfl,l,_,_,rfl,rfl,h3l,?_,?_⟩
      ·rw[ZQ];exact Zj (by omega)
      refine⟨_,rfl,Z4 s3 hl,by rw[ZZ nlt.symm];exact h3,?_⟩;unfold put;rw[if_neg hy,Z2,XD]
    ·rintro σ H3 ⟨o4,rfl,s3,h3,h3l⟩;refine⟨_,rfl,_,_,rfl,rfl,⟨_,kk+1,_,rfl,s3,h3l,hM.step rr ru hx⟩,?_⟩;show (100-((kk:Int)+1)).toNat<(100-(kk:Int)).toNat;omega
   ·have hge:¬ (kk:Int)<(M.length:Int):=fun z=>hge (decide_eq_true z);have hA:=hM.all (by omega);have hMl:M.length<=n:=by
     have:=XE M (Y03 n) hA.nd fun x hx=>Y08.mpr (hA.lt x hx)
     simpa using this
    refine⟨_,rfl,l,M,rfl,.inl (SqL.of h2l),by omega,fun l2 S hl2 pS sS=>?_⟩;have hS':=hA.perm pS;have hSl:S.length<=n:=(by rw[pS.length_eq];exact hMl);have s3:Z7 H (upd H2 l2 (.lst (nv S))):=Z4 s2 (s2.free hl2);have h3S:(upd H2 l2 (.lst (nv S))) l2=some (.lst (nv S)):=Z2;revert s3 h3S;generalize (upd H2 l2 (.lst (nv S)))=H3;intro s3 h3S;dsimp only [Yh,Xv,tCB,ZM,ZC,Xs,tTup];refine Zbr rfl rfl (hR.same s3) h3S rr (by omega) (fun y hy=>⟨hS'.lt y hy,(hS'.shut y hy).1⟩) ?_;intro H4 d4 s4 h4;refine⟨d4,_,rfl,.inl ⟨SqL.of h4,fun t1 ht1=>?_⟩⟩;have s4':Z7 H3 (upd H4 t1 (.tup (nv (Yx r S)))):=Z4 s4 (s4.free ht1);have s5:Z7 H (upd H4 t1 (.tup (nv (Yx r S)))):=s3.trans s4';refine Zbr rfl rfl (hU.same s5) (s4' _ _ h3S) ru (by omega) (fun y hy=>⟨hS'.lt y hy,(hS'.shut y hy).2⟩) ?_;intro H5 d5 s6 h5;refine⟨d5,_,rfl,.inl ⟨SqL.of h5,fun t2 ht2=>?_⟩⟩;have s7:Z7 (upd H4 t1 (.tup (nv (Yx r S)))) (upd H5 t2 (.tup (nv (Yx u S)))):=Z4 s6 (s6.free ht2);refine⟨by show 2<=sizeLine;decide,fun a ha=>k _ a S.length _ _ ?_ ⟨t1,t2,Z2,?_,?_⟩ (Z7Y hn rr ru hS' sS) hSl⟩
    ·exact Z4 (s5.trans s7) ((s5.trans s7).free ha)
    ·have e1:=s7 t1 _ Z2;rw[ZZ (Zv e1 ha)];exact e1
    ·have e2:(upd H5 t2 (.tup (nv (Yx u S)))) t2=some (.tup (nv (Yx u S))):=Z2;rw[ZZ (Zv e2 ha)];exact e2
  ·rintro σ H Q Q' h ⟨v,e1,v',e2,p,ys,e3,sq,i,j,e4,e5,k,e6,q⟩;exact⟨v,e1,v',e2,p,ys,e3,sq,i,j,e4,e5,k,e6,h _ _ q⟩
end
def spMx:Sp:=fun vs H Q _=>∃ (c:Int) (n:Nat),vs=[.int c,.int (n:Int)]/\1<=n/\n<=36/\∀ (H':Hp) (a:Addr) (m:Nat) (r u:List Nat),Z7 H H'->ZN H' a r u->ZK m r u->m<=n->Q (.ref a) H'
section
variable {P:Program}{w:World}{K:Y00}{mg:Str->Option Value}{base:Heap}
noncomputable abbrev n_mx:List Str:=["_law_cell","_law_many","_law_number","_law_told","_law_turn","_law_left","_law_row","_law_k"]
theorem WU:ZO n_mx ["_law_cell","_law_many"] (Z0 U5):=⟨rfl,rfl,rfl,by decide +kernel,rfl,by decide +kernel,by decide +kernel⟩
theorem ZiR {f ft:Addr}{fd dt:FuncData}(T:Bi mg)(FT:Fn K mg "_law_together" WH ["_law_right","_law_up"] ft dt)(GT:Z6 P w K mg base CX0 1 ft dt ["_law_right","_law_up"] (spTg K))(F:Fn K mg "_law_mixed_sheet" U5 ["_law_cell","_law_many"] f fd):Z6 P w K mg base CX0 2 f fd ["_law_cell","_law_many"] spMx:=by
 refine F.F.ok WU (fun vs H Q E h=>?_) (fun cdv A outer s H vs Q E hr h=>?_)
 ·obtain⟨c,n,rfl,_⟩:=h;rfl
 ·obtain⟨c,n,rfl,hn1,hn,k⟩:=h;have hr1:ZR 1 _:=hr.mono (by decide);refine⟨_,(Z5 (ZP (i:=2) WU.nd rfl (Or.inl rfl) (ZJ YF (pv 0) Z3))
   (Z5 (ZP (i:=3) WU.nd rfl (Or.inl rfl) (Y8 Z8))
   (Z5 (YQ PassesOwn.never rfl (X9 rfl T.range (Z9 Z3 Z8)) (ZE (i:=4) WU.nd rfl (Or.inl rfl)) (Z5 (ZP (i:=5) WU.nd rfl (Or.inl rfl) (Y7 (Z3K rfl) rfl T.list To (Z9 (Y7 Z4P rfl T.range PyProof.Rows.boot_range (Z9 (pv 1) Z8)) Z8)))
   (Z5 (ZP (i:=6) WU.nd rfl (Or.inl rfl) (Y8 Z8))
   (Z5 (YQ PassesOwn.never rfl (X9 rfl T.range (Z9 (pv 1) Z8)) (ZE (i:=7) WU.nd rfl (Or.inl rfl)) (Z5 (ZP (i:=2) WU.nd rfl (Or.inl rfl) (ZJ YF (ZJ Xf (ZJ Zb6 (pv 2) Z3) Z3) Z3))
   (Z1 (Y3 (Zg PySem.F.plainAttrs_list PySem.F.slot_list_append PySem.F.type_list_append YU (pv 6) (Z9 (Zg PySem.F.plainAttrs_list PySem.F.slot_list_pop PySem.F.type_list_pop Zdv (pv 5) (Z9 (ZJ YF (ZJ XZ (pv 2) Z3) (ZF Zk (by rfl) T.len PySem.boot_len (Z9 (pv 5) Z8))) Z8)) Z8))))))
   (Z1 (Y3 (Zg PySem.F.plainAttrs_list PySem.F.slot_list_append PySem.F.type_list_append YU (pv 3) (Z9 (pv 6) Z8))))))))
   (Z1 (ZS (ZU GT hr1 rfl FT.m FT.F.kp FT.b .nil ZX (Z9 (ZY Zs (pv 3) Z3 (fun _ _=>rfl)) (Z9 (ZY Zs (pv 3) Z3 (fun _ _=>rfl)) Z8)))))))),?_⟩
  refine⟨_,rfl,_,_,rfl,rfl,(by show (0:Int)<2147483647;decide),?_⟩;refine⟨Y0y _,fun l hl=>?_⟩;refine⟨2,rfl,by decide,by decide,WE (n:=2) (fun t σ H2=>∃ (num:Int) (o4 o5 o6 o7:Option V) (ps:List (Addr×List Nat)),σ=[some (.int c),some (.int (n:Int)),some (.int num),some (.ref l),o4,o5,o6,o7]/\Z7 H H2/\ps.length=t/\
   H2 l=some (.lst (ps.map fun p=>.ref p.1))/\∀ p∈ps,p.1≠l/\H2 p.1=some (.lst (nv p.2))/\Row n p.2) ?_ ?_ ?_⟩
  ·exact⟨_,_,_,_,_,[],rfl,Z4 (Z7.refl H) hl,rfl,Z2,fun p hp=>nomatch hp⟩
  ·rintro t σ H2 ht ⟨num,o4,o5,o6,o7,ps,rfl,s2,hps,h2l,hall⟩;refine⟨_,rfl,(n:Int),rfl,fun r0 hr0=>⟨r0,n,rfl,Z2,by omega,fun lf hlf=>?_⟩⟩;refine⟨Y0y _,fun ln hln=>?_⟩;have nr0l:l≠r0:=Zv h2l hr0;have f0:H2 lf=none:=by
    by_cases e:lf=r0
    ·rw[e];exact hr0
    ·rwa [ZZ e]at hlf
   have nlfr:lf≠r0:=fun e=>by rw[e,Z2]at hlf;cases hlf
   have nlnl:ln≠lf:=fun e=>by rw[e,Z2]at hln;cases hln
   have g0:(upd H2 r0 (.rng 0 (n:Int))) ln=none:=(by rwa [ZZ nlnl]at hln);have nlnr:ln≠r0:=fun e=>by rw[e,Z2]at g0;cases g0
   have g1:H2 ln=none:=(by rwa [ZZ nlnr]at g0);have llf:l≠lf:=Zv h2l f0;have lln:l≠ln:=Zv h2l g1;refine⟨_,rfl,(n:Int),rfl,by omega,by omega,?_⟩;rw[Y0q];refine WE (n:=n) (fun i σ H3=>∃ (num:Int) (o7:Option V) (line left:List Nat),σ=[some (.int c),some (.int (n:Int)),some (.int num),some (.ref l),some (.int (0+(t:Int))),some (.ref lf),some (.ref ln),o7]/\
    (∀ b,b≠r0->b≠lf->b≠ln->H3 b=H2 b)/\H3 lf=some (.lst (nv left))/\H3 ln=some (.lst (nv line))/\line.length=i/\(line++left).Perm (Y03 n)) ?_ ?_ ?_
   ·refine⟨_,_,[],Y03 n,rfl,fun b c1 c2 c3=>by rw[ZZ c3,ZZ c2,ZZ c1],by rw[ZZ nlnl.symm,Z2],Z2,rfl,List.Perm.refl _⟩
   ·rintro i σ H3 hi ⟨num,o7,line,left,rfl,same3,hlf3,hln3,hlen,hp⟩;have hleft:left.length=n-i:=by
     have:=hp.length_eq;simp only[Y09,Y0m]at this;omega
    have hpos:0<left.length:=(by omega);refine⟨_,rfl,_,_,rfl,rfl,.inr ⟨by decide,by decide⟩,_,_,rfl,rfl,_,_,rfl,rfl,(by show (0:Int)<2147483647;decide),?_⟩;refine⟨_,rfl,.inl ⟨rfl,_,SqL.of hln3⟩,_,rfl,.inl ⟨rfl,_,SqL.of hlf3⟩,_,rfl,_,_,rfl,rfl,⟨by decide,by decide⟩,_,rfl,lf,_,rfl,.inl (SqL.of hlf3),_,_,rfl,rfl,?_,?_⟩
    ·rw[ZQ];omega
    refine Zfh hlf3 hpos (by omega) fun kx y hy=>?_;have e3:(upd H3 lf (.lst (nv (left.eraseIdx kx)))) ln=some (.lst (nv line)):=(by rw[ZZ nlnl];exact hln3);refine⟨ln,_,_,rfl,rfl,e3,?_,?_⟩
    ·rw[ZQ];exact Zj (by omega)
    refine⟨_,_,line++[y],left.eraseIdx kx,rfl,fun b c1 c2 c3=>?_,?_,?_,?_,Zda hp hy⟩
    ·rw[ZZ c3,ZZ c2];exact same3 b c1 c2 c3
    ·rw[ZZ nlnl.symm,Z2]
    ·rw[Z2,XD]
    ·rw[Y09,hlen];rfl
   ·rintro σ H3 ⟨num,o7,line,left,rfl,same3,hlf3,hln3,hlen,hp⟩;have hl0:left=[]:=by
     have:=hp.length_eq;simp only[Y09,Y0m]at this;exact Y1p.mp (by omega)
    have hrow:Row n line:=Row.of_perm (by rw[hl0,Y1h]at hp;exact hp);have hl3:H3 l=some (.lst (ps.map fun p=>.ref p.1)):=(by rw[same3 l nr0l llf lln];exact h2l);refine⟨_,rfl,.inl ⟨rfl,_,SqL.of hl3⟩,_,rfl,l,_,_,rfl,rfl,hl3,?_,?_⟩
    ·rw[Y05];exact Zj (by omega)
    refine⟨_,_,_,_,_,ps++[(ln,line)],rfl,fun b o q=>?_,by rw[Y09,hps];rfl,by rw[Z2,Y0t];rfl,fun p hp'=>?_⟩
    ·have q2:=s2 b o q;rw[ZZ (fun e=>by rw[e,hl]at q;cases q),same3 b (Zv q2 hr0) (Zv q2 f0) (Zv q2 g1)];exact q2
    ·rcases Y1d.mp hp' with hp'|hp'
     ·obtain⟨c1,c2,c3⟩:=hall p hp';refine⟨c1,?_,c3⟩;rw[ZZ c1,same3 p.1 (Zv c2 hr0) (Zv c2 f0) (Zv c2 g1)];exact c2
     ·rw[Y0c.mp hp'];exact⟨lln.symm,by rw[ZZ lln.symm];exact hln3,hrow⟩
  ·rintro σ H2 ⟨num,o4,o5,o6,o7,ps,rfl,s2,hps,h2l,hall⟩;obtain⟨⟨p,r⟩,⟨q,u⟩,rfl⟩:=len2 hps;have a1:=hall (p,r) (by simp);have a2:=hall (q,u) (by simp);refine⟨_,rfl,l,_,0,_,rfl,rfl,SqL.of h2l,ZV (j:=0) rfl,_,rfl,l,_,1,_,rfl,rfl,SqL.of h2l,ZV (j:=1) rfl,p,q,n,r,u,rfl,.inl (SqL.of a1.2.1),.inl (SqL.of a2.2.1),a1.2.2,a2.2.2,hn1,hn,fun H3 a m r' u' s3 ha hS hm=>?_⟩;exact k H3 a m r' u' (s2.trans s3) ha hS hm
end
def ZjA (K:Y00):Sp:=fun vs H Q _=>∃ (a:Addr) (n:Nat) (r u:List Nat),vs=[.ref a]/\ZN H a r u/\ZK n r u/\∀ H':Hp,Z7 H H'->Q (.str (txt (ZL r++[32]++ZL u))) H'
section
variable {P:Program}{w:World}{K:Y00}{mg:Str->Option Value}{base:Heap}
theorem ZgO:ZO ["_law_sheet","_law_some"] ["_law_sheet"] (Z0 Xl):=⟨rfl,rfl,rfl,by decide +kernel,rfl,by decide +kernel,by decide +kernel⟩
theorem ndT1:(["_law_row","_law_some"]:List Str).Nodup:=by decide +kernel
theorem ndT2:(["_law_square","_law_some"]:List Str).Nodup:=by decide +kernel
noncomputable def relN (o sc:Scope):List (Str×NameKind):=sc.names.map fun (n,k)=>if (k == .free&&o.kind == .function&&o.names.lookup n==some .cell) then (n,.cell) else (n,k)
noncomputable def Zhz:Expr->Scope
 | .ListComp _ _ sc _=>sc
 | _=>{ kind:=.function,names:=[],isGenerator:=false,isCoroutine:=false }
noncomputable def Zi8:Expr->Nat->Expr
 | .Call _ args _ _,i=>args.getD i (.Constant .none 0 ⟨0,0,0,0⟩)
 | e,_=>e
noncomputable def ZjK:Stmt->Expr
 | .Return (some e) _=>e
 | _=>.Constant .none 0 ⟨0,0,0,0⟩
noncomputable def ZiV:Scope:=Zhz (Zi8 (ZjK ((YY Xl).getD 1 (.Pass ⟨0,0,0,0⟩))) 0)
noncomputable abbrev teIn:TE:=tOp Xd (ZW 1) (ZW 0)
noncomputable abbrev ZjE (K:Y00):TE:=tBM K "str" (WV K) (tC (.str (Str.ofString ""))) (ZM (YO (fun σ H R=>WS K (ZW 0) σ H R\/Yr K (ZW 0) σ H R) 1 [1] (ZC 0) teIn) Zx)
set_option maxHeartbeats 4000000 in
theorem ZhZ {f:Addr}{fd:FuncData}(F:Fn K mg "_law_shown" Xl ["_law_sheet"] f fd) :
  Z6 P w K mg base CX0 1 f fd ["_law_sheet"] (ZjA K):=by
 refine F.F.ok ZgO (fun vs H Q E h=>?_) (fun cdv A outer s H vs Q E hr h=>?_)
 ·obtain⟨a,n,r,u,rfl,_⟩:=h;rfl
 ·obtain⟨a,n,r,u,rfl,hsh,hS,k⟩:=h;obtain⟨p,q,h1,h2,h3⟩:=id hsh;have l1:=(ZK.len36 hS).1;have l2:=(ZK.len36 hS).2;refine⟨_,Z5 (ZP (i:=1) ZgO.nd rfl (Or.inr rfl) ZH)
   (Z1 (ZS (Zg PySem.F.plainAttrs_str PySem.F.slot_str_join PySem.F.type_str_join Xj ZH (Z9
    (Y6 (N:=["_law_sheet","_law_some"]) (names:=(Z0 Xl).names) (N':=["_law_row","_law_some"]) (k:=1) (pull:=[1]) (te:=ZjE K) rfl
     ⟨by rfl,by decide +kernel,by decide +kernel,by rfl,by decide +kernel,by decide +kernel⟩ rfl rfl (XQ (pv 0)) (fun _ _ _ _ _ _=>ZE (i:=0) ndT1 rfl (Or.inl rfl))
     (fun _ _ _ _ _ _=>Zg PySem.F.plainAttrs_str PySem.F.slot_str_join PySem.F.type_str_join Xj ZH (Z9
      (Y6 (N:=["_law_row","_law_some"]) (names:=relN (Z0 Xl) ZiV) (N':=["_law_square","_law_some"]) (k:=1) (pull:=[1]) (te:=teIn) rfl
       ⟨by rfl,by decide +kernel,by decide +kernel,by rfl,by decide +kernel,by decide +kernel⟩ rfl rfl (PI.or' (XQ (pv 0)) (Y5 (pv 0))) (fun _ _ _ _ _ _=>ZE (i:=0) ndT2 rfl (Or.inl rfl))
       (fun _ _ _ _ _ _=>ZY Vt (pv 1) (pv 0) (fun _ _=>rfl))) Z8))) Z8)))),?_⟩
  refine⟨rfl,?_⟩;dsimp only [ZM,Zx];refine⟨_,rfl,a,rfl,⟨_,SqT.of h1⟩,fun d hd=>?_⟩;refine YR (Q:=fun d H'=>WV K (.str (Str.ofString " ")) [.ref d] H' Q) 2 (wv [ZL r,ZL u]) rfl (fun i σ H3=>∃ o,σ=[o,some (.str SG)]/\Z7 H H3) ⟨_,rfl,Z4 (Z7.refl _) hd⟩ ?_ ?_
  ·rintro i σ H3 hi ⟨o,rfl,s3⟩ hd3;obtain⟨b,row,hb,hrow,hlt,hlen,hw⟩:∃ b row,([V.ref p,V.ref q])[i]?=some (.ref b)/\H b=some (.tup (nv row))/\(∀ x∈row,x<36)/\row.length<=36/\(wv [ZL r,ZL u])[i]?=some (.str (txt (ZL row))):=by
    match i,hi with
    | 0,_=>exact⟨p,r,rfl,h2,(ZK.lt36 hS).1,l1,rfl⟩
    | 1,_=>exact⟨q,u,rfl,h3,(ZK.lt36 hS).2,l2,rfl⟩
   refine⟨⟨_,_,SqT.of (s3 _ _ h1),hb⟩,fun y H4 ⟨e,hy⟩=>?_⟩;subst e;have hy:=hy _ (SqT.of (s3 _ _ h1));rw[hb]at hy;cases hy;refine⟨rfl,?_⟩;dsimp only [ZM,Zx];refine Z7p rfl (.inl (SqT.of (s3 _ _ hrow))) hlt (by omega) (fun _ _ _ z=>⟨_,rfl,z⟩) fun H5 d5 s5 hd5=>?_;refine Z6C hd5 (by rw[YX];omega) ?_;have hdd:=s5 _ _ hd3;exact YN hi (by decide) hdd hw ⟨_,rfl,Z4 (s3.trans s5) hd⟩
  ·rintro σ H3 ⟨o,rfl,s3⟩ hd3;refine⟨⟨_,SqT.of (s3 _ _ h1),by show 2<=2;decide⟩,?_⟩;refine⟨_,d,[txt (ZL r),txt (ZL u)],rfl,rfl,.inl (SqL.of hd3),?_,?_⟩
   ·rw[YD];simp[ZD,YX];omega
   ·rw[YD,ZcD];exact k H3 s3
end
def Zet:Sp:=fun vs H Q _=>∃ (c:Addr) (n:Nat) (r u:List Nat) (m:Int),vs=[.ref c,.int m]/\ZN H c r u/\Row n r/\Row n u/\n<=36/\∀ (H':Hp) (l:Addr),Z7 H H'->ZN H' l (tn (m%4).toNat (r,u)).1 (tn (m%4).toNat (r,u)).2->Q (.ref l) H'
section
variable {P:Program}{w:World}{K:Y00}{mg:Str->Option Value}{base:Heap}
noncomputable abbrev ZfS:List Str:=["_law_sheet","_law_often","_law_turn"]
theorem Z8k:ZO ZfS ["_law_sheet","_law_often"] (Z0 UL):=⟨rfl,rfl,rfl,by decide +kernel,rfl,by decide +kernel,by decide +kernel⟩
theorem Zf6 {f fb:Addr}{fd db:FuncData}(T:Bi mg)(F:Fn K mg "_law_turned" UL ["_law_sheet","_law_often"] f fd)(FB:Fn K mg "_law_back" Wm ["_law_row"] fb db)(GB:Z6 P w K mg base CX0 1 fb db ["_law_row"] Sf):Z6 P w K mg base CX0 2 f fd ["_law_sheet","_law_often"] Zet:=by
 refine F.F.ok Z8k (fun vs H Q E h=>?_) (fun cdv A outer s H vs Q E hr h=>?_)
 ·obtain⟨c,n,r,u,m,rfl,_⟩:=h;rfl
 ·obtain⟨c,n,r,u,m,rfl,hc,rr,ru,hn,k⟩:=h;have hr1:ZR 1 _:=hr.mono (by decide);refine⟨_,(Z5 (YQ PassesOwn.never rfl (X9 rfl T.range (Z9 (ZJ YF (pv 1) Z3) Z8)) (ZE (i:=2) Z8k.nd rfl (Or.inl rfl)) (Z1 (ZP (i:=0) Z8k.nd rfl (Or.inl rfl) (Y2 (Z9 (Y7 XH rfl T.tuple Yg (Z9 (ZU GB hr1 rfl FB.m FB.F.kp FB.b .nil ZX (Z9 (ZY ZA (pv 0) Z3 (fun _ _=>rfl)) Z8)) Z8)) (Z9 (ZY ZA (pv 0) Z3 (fun _ _=>rfl)) Z8))))))
   (Z1 (ZS (pv 0)))),?_⟩
  have two:2<=sizeLine:=by decide
  obtain⟨N,hN⟩:∃ N:Nat,m%4=(N:Int):=⟨(m%4).toNat,by omega⟩;refine⟨_,rfl,_,_,rfl,rfl,(by show (0:Int)<4;decide),(N:Int),by show [V.int (m%4)]=_;rw[hN],by omega,by omega,?_⟩;rw[Y0q];rw[hN,Y0q]at k;refine WE (n:=N) (fun i σ H2=>∃ (l:Addr) (o:Option V),σ=[some (.ref l),some (.int m),o]/\Z7 H H2/\ZN H2 l (tn i (r,u)).1 (tn i (r,u)).2) ⟨c,none,rfl,Z7.refl _,hc⟩ ?_ ?_
  ·rintro i σ H2 hi ⟨l,o,rfl,s2,p,q,g1,g2,g3⟩;have rw2:=Zb4 i (x:=(r,u)) ⟨rr,ru⟩;refine⟨_,rfl,l,_,1,_,rfl,rfl,SqT.of g1,ZV (j:=1) rfl,q,n,_,rfl,g3,rw2.2,hn,fun H3 b s3 _ hb=>?_⟩;refine⟨b,_,rfl,.inl ⟨SqL.of hb,fun tb htb=>?_⟩⟩;have s4:=Z4 (o:=.tup (nv (back (tn i (r,u)).2))) (Z7.refl H3) htb;have e4:(upd H3 tb (.tup (nv (back (tn i (r,u)).2)))) tb=some (.tup (nv (back (tn i (r,u)).2))):=Z2;generalize upd H3 tb (.tup (nv (back (tn i (r,u)).2)))=H4 at s4 e4;refine⟨_,rfl,l,_,0,_,rfl,rfl,SqT.of (s4 _ _ (s3 _ _ g1)),ZV (j:=0) rfl,two,fun t ht=>?_⟩;have s5:=Z4 (o:=.tup [.ref tb,.ref p]) (Z7.refl H4) ht;refine⟨t,_,rfl,s2.trans (s3.trans (s4.trans s5)),?_⟩;rw[ZbM];exact⟨tb,p,Z2,s5 _ _ e4,s5 _ _ (s4 _ _ (s3 _ _ g2))⟩
  ·rintro σ H2 ⟨l,o,rfl,s2,hl⟩;exact⟨_,rfl,k H2 l s2 hl⟩
end
end K1
namespace Sq
noncomputable def Zd (n:Nat)(w:List Nat)(i:Nat):List Nat:=(((Y03 i).filter (Zq n w)).map (cyc n w)).flatten
theorem Z6D (n:Nat)(w:List Nat)(i:Nat):Zd n w (i+1)=Zd n w i++(if Zq n w i=true then cyc n w i else []):=by
 unfold Zd;rw[Y1i,Y10,Y0t,Y22];congr 1
 by_cases e:Zq n w i=true
 ·rw[if_pos e,Y13 e];simp
 ·rw[if_neg e,Y1e e];simp
theorem Zdn {n:Nat}{w:List Nat}(h:Row n w){i:Nat}(hi:i<=n):(Zd n w i).length<=n:=by
 have h1:=(Z3p h).length_eq;rw[Y0m]at h1;have:Zd n w n=Zd n w i++((((List.range' i (n-i)).filter (Zq n w)).map (cyc n w)).flatten):=by
  unfold Zd;rw[<-Y22,<-Y0t,<-Y10];congr 3;rw[List.range_eq_range',List.range_eq_range'];have e:=List.range'_append_1 (s:=0) (m:=i) (n:=n-i);rw[show i+(n-i)=n from by omega,show 0+i=i from by omega]at e;exact e.symm
 have h2:(Zd n w n).length=n:=h1;rw[this,Y09]at h2;omega
theorem Zdd {n:Nat}{w:List Nat}(h:Row n w){i:Nat}(hi:i<n):i∈Zd n w i↔¬ Zq n w i=true:=by
 constructor
 ·intro hm hl;obtain⟨M,hM,hx⟩:=Y1z.mp hm;obtain⟨l,hl',rfl⟩:=Y0d.mp hM;obtain⟨h1,h2⟩:=Y0s.mp hl';have h1:=Y08.mp h1;have:=V8 h (by omega) hi h2 hl hx (Xz h hi 0);omega
 ·intro hl;obtain⟨l,h1,h2,h3⟩:=UF h hi;have hle:=W6.mp h2 i h3;have hne:l≠i:=fun e=>hl (e ▸ h2);exact Y1z.mpr ⟨_,Y0d.mpr ⟨l,Y0s.mpr ⟨Y08.mpr (by omega),h2⟩,rfl⟩,h3⟩
theorem Zcy {n:Nat}{w:List Nat}(h:Row n w){x:Nat}(hx:x<n)(hl:Zq n w x=true)(k:Nat):it w x k∉Zd n w x:=by
 intro hm;obtain⟨M,hM,hy⟩:=Y1z.mp hm;obtain⟨l,hl',rfl⟩:=Y0d.mp hM;obtain⟨h1,h2⟩:=Y0s.mp hl';have h1:=Y08.mp h1;have:=V8 h (by omega) hx h2 hl hy (Xz h hx k);omega
end Sq
namespace K1
open PySem L2 Sq
noncomputable def mu94 (σ:St)(_:Hp):Nat:=match (σ[9]?:Option (Option V)) with
 | some (some (V.int c))=>(100-c).toNat
 | _=>0
def spLu:Sp:=fun vs H Q _=>∃ (a:Addr) (n:Nat) (r u:List Nat),vs=[.ref a]/\ZN H a r u/\Row n r/\Row n u/\n<=36/\∀ (H':Hp) (l:Addr) (S:List Nat),Z7 H H'->H l=none->H' l=some (.lst (nv S))->S.Perm ((Zp n (Zn r u)).map Y1k)->S.Pairwise (·<=·)->Q (.ref l) H'
noncomputable def lnU (n:Nat)(w:List Nat)(i:Nat):List Nat:=((Y03 i).filter (Zq n w)).map fun x=>(cyc n w x).length
theorem Z8v (n:Nat)(w:List Nat)(i:Nat):lnU n w (i+1)=lnU n w i++(if Zq n w i=true then [(cyc n w i).length] else []):=by
 unfold lnU;rw[Y1i,Y10,Y0t];congr 1
 by_cases e:Zq n w i=true
 ·rw[if_pos e,Y13 e];rfl
 ·rw[if_neg e,Y1e e];rfl
theorem ZeV (n:Nat)(w:List Nat):lnU n w n=(Zp n w).map Y1k:=by unfold lnU Zp;rw[Y2b];rfl
theorem ZaI (n:Nat)(w:List Nat)(i:Nat):(lnU n w i).length<=i:=by
 unfold lnU;rw[Y05];have:=Y0u (Zq n w) (Y03 i)
 rwa [Y0m]at this
theorem Sm {te:TE}{g:TG}{rest:L2.TS}{D:YZ}{σ:St}{H:Hp}(h:te σ H fun v H'=>g v σ H' (rest D)):Yh (Xv te g) rest D σ H:=h
theorem Z7M {t rest:L2.TS}{D:YZ}{σ:St}{H:Hp}(Pv:St->Hp->Prop)(h:∀ N:St->Hp->Prop,(∀ σ' H',Pv σ' H'->N σ' H')->t { D with nx:=N } σ H)(k:∀ σ' H',Pv σ' H'->rest D σ' H'):Yh t rest D σ H:=h _ k
section
variable {P:Program}{w:World}{K:Y00}{mg:Str->Option Value}{base:Heap}
noncomputable abbrev n_tu:List Str:=["_law_sheet","_law_right","_law_up","_law_left","_law_down","_law_later","_law_have","_law_told","_law_first","_law_many"]
theorem X3:ZO n_tu ["_law_sheet"] (Z0 VI):=⟨rfl,rfl,rfl,by decide +kernel,rfl,by decide +kernel,by decide +kernel⟩
theorem Zj1:(["_law_square","_law_right","_law_up","_law_left","_law_down"]:List Str).Nodup:=by decide +kernel
set_option maxHeartbeats 2000000 in
theorem Zi4 {f fb:Addr}{fd db:FuncData}(T:Bi mg)(F:Fn K mg "_law_turns" VI ["_law_sheet"] f fd)(FB:Fn K mg "_law_back" Wm ["_law_row"] fb db)(GB:Z6 P w K mg base CX0 1 fb db ["_law_row"] Sf):Z6 P w K mg base CX0 2 f fd ["_law_sheet"] spLu:=by
 refine F.F.ok X3 (fun vs H Q E h=>?_) (fun cdv A outer s H vs Q E hr h=>?_)
 ·obtain⟨a,n,r,u,rfl,_⟩:=h;rfl
 ·obtain⟨a,n,r,u,rfl,⟨p,q,h1,h2,h3⟩,rr,ru,hn,k⟩:=h;have hr1:ZR 1 _:=hr.mono (by decide);refine⟨_,(Z5 (Za5 (pv 0) (SO rfl (YG (ZE (i:=1) X3.nd rfl (Or.inr rfl)) (YG (ZE (i:=2) X3.nd rfl (Or.inr rfl)) Xn))))
   (Z5 (ZP (i:=3) X3.nd rfl (Or.inr rfl) (ZU GB hr1 rfl FB.m FB.F.kp FB.b .nil ZX (Z9 (pv 1) Z8)))
   (Z5 (ZP (i:=4) X3.nd rfl (Or.inr rfl) (ZU GB hr1 rfl FB.m FB.F.kp FB.b .nil ZX (Z9 (pv 2) Z8)))
   (Z5 (Zbc (j:=5) (N:=n_tu) (names:=(Z0 VI).names) (N':=["_law_square","_law_right","_law_up","_law_left","_law_down"]) (k:=1) (pull:=[1,2,3,4]) (te:=(tOp (Yp K) (ZW 2) (tOp (Yp K) (ZW 1) (tOp (WQ K) (ZW 4) (tOp (WQ K) (ZW 3) (ZW 0)))))) rfl X3.nd rfl rfl ⟨by rfl,by decide +kernel,by decide +kernel,by rfl,by decide +kernel,by decide +kernel⟩ rfl rfl (X9 rfl T.range (Z9 (ZF Zk rfl T.len PySem.boot_len (Z9 (pv 1) Z8)) Z8)) (fun _ _ _ _ _ _=>ZE (i:=0) Zj1 rfl (Or.inl rfl)) (fun _ _ _ _ _ _=>(ZY ZA (pv 2) (ZY ZA (pv 1) (ZY Zs (pv 4) (ZY Zs (pv 3) (pv 0) (fun _ _=>rfl)) (fun _ _=>rfl)) (fun _ _=>rfl)) (fun _ _=>rfl))))
   (Z5 (ZP (i:=6) X3.nd rfl (Or.inl rfl) (Y8 Z8))
   (Z5 (ZP (i:=7) X3.nd rfl (Or.inl rfl) (Y8 Z8))
   (Z5 (YQ PassesOwn.never rfl (X9 rfl T.range (Z9 (ZF Zk rfl T.len PySem.boot_len (Z9 (pv 1) Z8)) Z8)) (ZE (i:=8) X3.nd rfl (Or.inl rfl)) (Z5 (ZP (i:=9) X3.nd rfl (Or.inl rfl) Z3)
   (Z5 (W3 PassesOwn.never (Zt Z2F (pv 8) (pv 6) rfl) (Z5 (Y3 (Zg PySem.F.plainAttrs_list PySem.F.slot_list_append PySem.F.type_list_append YU (pv 6) (Z9 (pv 8) Z8)))
   (Z5 (ZP (i:=9) X3.nd rfl (Or.inl rfl) (ZJ Xf (pv 9) Z3))
   (Z1 (ZP (i:=8) X3.nd rfl (Or.inl rfl) (ZY Zs (pv 5) (pv 8) (fun _ _=>rfl)))))))
   (Z1 (Zu (Zt Vm (pv 9) Z3 (Zw _)) (Z1 (Y3 (Zg PySem.F.plainAttrs_list PySem.F.slot_list_append PySem.F.type_list_append YU (pv 7) (Z9 (pv 9) Z8)))) Zr)))))
   (Z1 (ZS (ZF (U2 rfl) rfl T.sorted V7 (Z9 (pv 7) Z8))))))))))),?_⟩
  refine⟨_,rfl,a,_,rfl,SqT.of h1,rfl,_,_,rfl,_,_,rfl,rfl,?_⟩;refine⟨_,rfl,p,n,r,rfl,h2,rr,hn,fun H1 l1 s1 _ hl1=>?_⟩;refine⟨_,rfl,q,n,u,rfl,s1 _ _ h3,ru,hn,fun H2 l2 s2 _ hl2=>?_⟩;dsimp only [ZC];have s12:=s1.trans s2;have b1:=rr.back;have b2:=ru.back;have rw':=WG rr ru;have h2':=s12 _ _ h2;have h3':=s12 _ _ h3;have hl1':=s2 _ _ hl1;refine Sm (Z7e (m:=n) (rest:=[some (.ref p),some (.ref q),some (.ref l1),some (.ref l2)]) (fun i=>nx u (nx r (nx (back u) (nx (back r) i)))) (fun R hR=>⟨_,rfl,p,_,rfl,.inr (SqT.of h2'),by rw[ZQ,rr.len];exact hR⟩) rfl (fun i H3 R hi s3 hR=>?_) (by omega) fun H3 ld s3 hld0 hld=>?_)
  ·refine⟨_,rfl,_,rfl,_,rfl,_,rfl,_,rfl,l1,_,_,_,rfl,rfl,SqL.of (s3 _ _ hl1'),ZV (Zy (b1.get hi)),?_⟩;refine⟨l2,_,_,_,rfl,rfl,SqL.of (s3 _ _ hl2),ZV (Zy (b2.get (b1.nlt hi))),?_⟩;refine⟨p,_,_,_,rfl,rfl,SqT.of (s3 _ _ h2'),ZV (Zy (rr.get (b2.nlt (b1.nlt hi)))),?_⟩;exact⟨q,_,_,_,rfl,rfl,SqT.of (s3 _ _ h3'),ZV (Zy (ru.get (rr.nlt (b2.nlt (b1.nlt hi))))),hR⟩
  have elat:(Y03 n).map (fun i=>nx u (nx r (nx (back u) (nx (back r) i))))=Zn r u:=by unfold Zn;rw[rr.len]
  rw[elat]at hld;generalize hW:Zn r u=W at *;dsimp only [ZC];refine⟨Y0y _,fun hv hhv=>⟨Y0y _,fun tl htl=>?_⟩⟩;have nvr:hv≠tl:=fun e=>by rw[<-e,Z2]at htl;cases htl
  have htl0:H3 tl=none:=by rwa [ZZ nvr.symm]at htl
  have s4:Z7 H3 (upd (upd H3 hv (.lst [])) tl (.lst [])):=Z4 (Z4 (Z7.refl H3) hhv) htl0;refine⟨_,rfl,p,_,rfl,.inr (SqT.of (s4 _ _ (s3 _ _ h2'))),(n:Int),by rw[ZQ,rr.len],by omega,by omega,?_⟩;rw[Y0q];refine WE (n:=n) (fun i σ H5=>∃ o8 o9,σ=[some (.ref a),some (.ref p),some (.ref q),some (.ref l1),some (.ref l2),some (.ref ld),some (.ref hv),some (.ref tl),o8,o9]/\Z7 H3 H5/\H5 hv=some (.lst (nv (Zd n W i)))/\H5 tl=some (.lst (nv (lnU n W i)))) ⟨_,_,rfl,s4,by rw[ZZ nvr,Z2];rfl,by rw[Z2];rfl⟩ ?_ ?_
  ·rintro x σ H5 hx ⟨o8,o9,rfl,s5,h5v,h5t⟩;rw[show (0:Int)+(x:Int)=(x:Int) from by omega];have hul:=Zdn rw' (Y14 hx);have hll:=ZaI n W x;refine Sm ?_;dsimp only [tC,ZC];refine Z7M (fun σ H6=>∃ (o:Option V) (kk:Nat),σ=[some (.ref a),some (.ref p),some (.ref q),some (.ref l1),some (.ref l2),some (.ref ld),some (.ref hv),some (.ref tl),o,some (.int (kk:Int))]/\Z7 H3 H6/\H6 hv=some (.lst (nv (Zd n W (x+1))))/\H6 tl=some (.lst (nv (lnU n W x)))/\(Zq n W x=true/\kk=per n W x\/¬ Zq n W x=true/\kk=0)) (fun N hN=>?_) ?_
   ·refine WA (fun σ H6=>∃ kk:Nat,σ=[some (.ref a),some (.ref p),some (.ref q),some (.ref l1),some (.ref l2),some (.ref ld),some (.ref hv),some (.ref tl),some (.int ((it W x kk:Nat):Int)),some (.int (kk:Int))]/\Z7 H3 H6/\H6 tl=some (.lst (nv (lnU n W x)))/\
     H6 hv=some (.lst (nv (Zd n W x++(Y03 kk).map (it W x))))/\(∀ i,1<=i->i<kk->it W x i≠x)/\(1<=kk->Zq n W x=true)) mu94 ?_ ?_ ?_
    ·exact⟨0,rfl,s5,h5t,by simpa using h5v,fun i h1 h2=>absurd h2 (by omega),fun z=>absurd z (by omega)⟩
    ·rintro σ H6 ⟨kk,rfl,s6,h6t,h6v,new,hld2⟩;have hlt':=Y4 rw' hx kk;have hkk:kk<=n:=Wk rw' hx new;refine⟨_,rfl,_,rfl,hv,_,rfl,.inl (SqL.of h6v),rfl,VL _,_,rfl,?_⟩;show (if (!inV (.int ((it W x kk:Nat):Int)) (nv (Zd n W x++(Y03 kk).map (it W x))))=true then _ else _);rw[Vx];have stop:Zq n W x=true/\kk=per n W x\/¬ Zq n W x=true/\kk=0->N [some (.ref a),some (.ref p),some (.ref q),some (.ref l1),some (.ref l2),some (.ref ld),some (.ref hv),some (.ref tl),some (.int ((it W x kk:Nat):Int)),some (.int (kk:Int))] H6:=by
      intro z;refine hN _ _ ⟨_,kk,rfl,s6,?_,h6t,z⟩;rcases z with ⟨z1,z2⟩|⟨z1,z2⟩
      ·rw[Z6D,if_pos z1];subst z2;exact h6v
      ·rw[Z6D,if_neg z1];subst z2;simpa using h6v
     by_cases hld':Zq n W x=true
     ·by_cases e:1<=kk/\it W x kk=x
      ·have hin:it W x kk∈Zd n W x++(Y03 kk).map (it W x):=by
        rw[e.2];exact Y0b _ (Y0d.mpr ⟨0,Y08.mpr e.1,rfl⟩)
       rw[decide_eq_true hin];refine ZG ?_;have ekk:kk=per n W x:=by
        obtain⟨p1,p2⟩:=Vv rw' hx;rcases Y3h kk (per n W x) with c|c|c
        ·exact absurd e.2 (p2 kk e.1 c)
        ·exact c
        ·exact absurd p1 (new _ (Nat.succ_pos _) c)
       exact stop (.inl ⟨hld',ekk⟩)
      ·have hnin:it W x kk∉Zd n W x++(Y03 kk).map (it W x):=by
        intro hm;rcases Y1d.mp hm with hm|hm
        ·exact Zcy rw' hx hld' kk hm
        ·obtain⟨i,hi,ei⟩:=Y0d.mp hm;have hi:=Y08.mp hi;have ec:=Z57 rw' hx i (kk-i) (by rw[show i+(kk-i)=kk from by omega];exact ei.symm)
         by_cases i0:i=0
         ·subst i0;exact e ⟨by omega,by simpa using ec⟩
         ·exact new (kk-i) (by omega) (by omega) ec
       rw[decide_eq_false hnin];refine Zo ?_;have new':∀ i,1<=i->i<kk+1->it W x i≠x:=fun i i1 i2 z=>by
        rcases Y0x i kk with c|c
        ·exact new i i1 c z
        ·have:i=kk:=(by omega);subst this;exact e ⟨i1,z⟩
       have hk1:kk+1<=n:=Wk rw' hx new';refine⟨_,rfl,.inl ⟨rfl,_,SqL.of h6v⟩,_,rfl,hv,_,_,rfl,rfl,h6v,by rw[ZQ,Y09,Y05,Y0m];exact Zj (by omega),?_⟩;have e7:nv (Zd n W x++(Y03 kk).map (it W x))++[.int ((it W x kk:Nat):Int)]=nv (Zd n W x++(Y03 (kk+1)).map (it W x)):=by
        rw[XD,Y1i,Y0t,<-Y2c];rfl
       rw[e7];have s7:Z7 H3 (upd H6 hv (.lst (nv (Zd n W x++(Y03 (kk+1)).map (it W x))))):=Z4 s6 hhv;refine⟨_,rfl,_,_,rfl,rfl,?_⟩;refine⟨_,rfl,_,rfl,ld,_,_,_,rfl,rfl,SqL.of (s7 _ _ hld),ZV (Zy (rw'.get hlt')),?_⟩;refine⟨⟨kk+1,rfl,s7,by rw[ZZ nvr.symm];exact h6t,Z2,new',fun _=>hld'⟩,?_⟩;show (100-((kk:Int)+1)).toNat<(100-(kk:Int)).toNat;omega
     ·have k0:kk=0:=by
       by_cases z:1<=kk
       ·exact absurd (hld2 z) hld'
       ·omega
      subst k0;have hin:it W x 0∈Zd n W x++(Y03 0).map (it W x):=Y1x _ ((Zdd rw' hx).mpr hld');rw[decide_eq_true hin];refine ZG ?_;exact stop (.inr ⟨hld',rfl⟩)
    ·rintro σ H Q Q' h ⟨v,e1,v2,e2,p',xs,f1,f2,f3,f4,b',g1,g2⟩;exact⟨v,e1,v2,e2,p',xs,f1,f2,f3,f4,b',g1,h _ _ g2⟩
   ·rintro σ H6 ⟨o,kk,rfl,s6,h6v,h6t,z⟩;refine⟨_,rfl,_,_,rfl,rfl,_,rfl,?_⟩;rcases z with ⟨z1,z2⟩|⟨z1,z2⟩
    ·have hp:1<=kk:=(by rw[z2];unfold per;omega);rw[decide_eq_true (show (0:Int)<(kk:Int) by omega)];refine Zo ?_;refine⟨_,rfl,.inl ⟨rfl,_,SqL.of h6t⟩,_,rfl,tl,_,_,rfl,rfl,h6t,by rw[ZQ];exact Zj (by omega),?_⟩;refine⟨_,_,rfl,Z4 s6 htl0,by rw[ZZ nvr];exact h6v,?_⟩;rw[Z2,XD,Z8v,if_pos z1,Wx,z2]
    ·rw[decide_eq_false (show ¬ (0:Int)<(kk:Int) by omega)];refine ZG ?_;refine⟨_,_,rfl,s6,h6v,?_⟩;rw[Z8v,if_neg z1,Y1h];exact h6t
  ·rintro σ H5 ⟨o8,o9,rfl,s5,h5v,h5t⟩;have hll:=ZaI n W n;refine⟨_,rfl,tl,_,rfl,.inl (SqL.of h5t),by omega,fun l3 S hl3 pS sS=>?_⟩;have sA:=s12.trans (s3.trans s5);rw[ZeV]at pS;exact k _ l3 S (Z4 sA (sA.free hl3)) (sA.free hl3) Z2 pS sS
end
structure Xu (kv:List (Key×Value))(K:Y00):Prop where
 sheet:∃ a,valueAt kv (Sum.inr "sheet":Key)=some (.ref a)/\TTs K a ["text","text"]
 shear:∃ a,valueAt kv (Sum.inr "shear":Key)=some (.ref a)/\TTs K a ["number"]
 turn:∃ a,valueAt kv (Sum.inr "turn":Key)=some (.ref a)/\TTs K a ["number"]
 mirror:∃ a,valueAt kv (Sum.inr "mirror":Key)=some (.ref a)/\TTs K a ["side"]
 undo:∃ a,valueAt kv (Sum.inr "undo":Key)=some (.ref a)/\TTs K a []
 plain:∀ j,j<4->∃ a,valueAt kv (Sum.inr (wT j):Key)=some (.ref a)/\TTs K a []
noncomputable def cp (s:Str):List Nat:=s.cps.toList
theorem Yb (s:Str):txt (cp s)=s:=Uc s
theorem Zb7 {kv:List (Key×Value)}{K:Y00}(h:Xu kv K){j:Nat}(hj:j<4):WW kv K (cp (wT j)) [.str (wT j)]:=by
 obtain⟨a,h1,h2⟩:=h.plain j hj;have hb:32∉cp (wT j)/\(cp (wT j)).length<=1000:=by
  match j,hj with
  | 0,_=>exact⟨by decide +kernel,by decide +kernel⟩
  | 1,_=>exact⟨by decide +kernel,by decide +kernel⟩
  | 2,_=>exact⟨by decide +kernel,by decide +kernel⟩
  | 3,_=>exact⟨by decide +kernel,by decide +kernel⟩
 exact⟨cp (wT j),[],[],a,[],rfl,fun y hy=>by rw[Y0c.mp hy];exact hb.1,hb.2,by simp,by rw[Yb];exact h1,h2,.nil,by rw[Yb]⟩
theorem Z92 {kv:List (Key×Value)}{K:Y00}(h:Xu kv K):WW kv K (cp "undo") [.str "undo"]:=by
 obtain⟨a,h1,h2⟩:=h.undo;exact⟨cp "undo",[],[],a,[],rfl,fun y hy=>by rw[Y0c.mp hy];decide +kernel,by decide +kernel,by simp,by rw[Yb];exact h1,h2,.nil,by rw[Yb]⟩
theorem Z8d {kv:List (Key×Value)}{K:Y00}{w0 k:Str}{z:List Nat}{v:V}(h:∃ a,valueAt kv (Sum.inr w0:Key)=some (.ref a)/\TTs K a [k])(h0:32∉cp w0)(hz:32∉z)(hl:(cp w0).length+z.length<=900)(t:Th k z v):WW kv K (cp w0++32::z) [.str w0,v]:=by
 obtain⟨a,h1,h2⟩:=h;refine⟨cp w0,[z],[k],a,[v],rfl,fun y hy=>?_,by rw[Y09,Y0f];omega,by simp,by rw[Yb];exact h1,h2,.cons t .nil,by rw[Yb]⟩;rcases Y0k.mp hy with rfl|hy
 ·exact h0
 ·rw[Y0c.mp hy];exact hz
theorem Zbm {kv:List (Key×Value)}{K:Y00}(h:Xu kv K){n:Nat}{r u:List Nat}(s:ZK n r u):WW kv K (cp "sheet"++32::(ZL r++[32]++ZL u)) [.str "sheet",.str (txt (ZL r)),.str (txt (ZL u))]:=by
 obtain⟨a,h1,h2⟩:=h.sheet;have l1:=(ZK.len36 s).1;have l2:=(ZK.len36 s).2;have l0:(cp "sheet").length=5:=by decide +kernel
 have ne:∀ {x:List Nat},x.length=n->ZL x≠[]:=fun {x} hx e=>by
  have:=congrArg Y1k e;rw[YX,hx]at this;have:=s.pos;simp at *;omega
 refine⟨cp "sheet",[ZL r,ZL u],["text","text"],a,[.str (txt (ZL r)),.str (txt (ZL u))],?_,fun y hy=>?_,?_,by simp,by rw[Yb];exact h1,h2,.cons (.text (ne s.row.len)) (.cons (.text (ne s.col.len)) .nil),by rw[Yb]⟩
 ·show cp "sheet"++32::(ZL r++32::ZL u)=_;simp
 ·rcases Y0k.mp hy with rfl|hy
  ·decide +kernel
  ·rcases Y0k.mp hy with rfl|hy
   ·exact Tn r
   ·rw[Y0c.mp hy];exact Tn u
 ·simp only[Y09,Y0f,Y28,YX,l0];omega
def spLc (kv:List (Key×Value))(K:Y00):Sp:=fun vs H Q _=>∃ (a:Addr) (c:Int) (n:Nat) (r u:List Nat),vs=[.ref a,.int c]/\ZN H a r u/\ZK n r u/\
 ∀ (H':Hp) (t b:Addr) (n' kd:Nat) (m:Int) (r' u' z:List Nat) (asked:List V),Z7 H H'->H' t=some (.tup [.str (txt z),.ref b])->WW kv K z asked->Va kd m r' u' asked->(kd=4->ZK n' r' u')->ZN H' b (chg n kd m (r,u) (r',u')).1 (chg n kd m (r,u) (r',u')).2->Q (.ref t) H'
section
variable {P:Program}{w:World}{K:Y00}{mg:Str->Option Value}{base:Heap}
noncomputable abbrev n_lc:List Str:=["_law_sheet","_law_cell","_law_kind","_law_number","_law_most","_law_other"]
theorem Vf:ZO n_lc ["_law_sheet","_law_cell"] (Z0 UX):=⟨rfl,rfl,rfl,by decide +kernel,rfl,by decide +kernel,by decide +kernel⟩
set_option maxHeartbeats 2000000 in
theorem ZjD {f fm fw fs ft fb:Addr}{fd dm dw ds dt db:FuncData}{kv:List (Key×Value)}(T:Bi mg)(Ts:mg "str"=none)(hkv:Xu kv K)(FM:Fn K mg "_law_mixed_sheet" U5 ["_law_cell","_law_many"] fm dm)(GM:Z6 P w K mg base CX0 2 fm dm ["_law_cell","_law_many"] spMx)(FW:Fn K mg "_law_shown" Xl ["_law_sheet"] fw dw)(GW:Z6 P w K mg base CX0 1 fw dw ["_law_sheet"] (ZjA K))(FS:Fn K mg "_law_sheared" UZ ["_law_sheet","_law_often"] fs ds)(GS:Z6 P w K mg base CX0 1 fs ds ["_law_sheet","_law_often"] ZdR)(FT:Fn K mg "_law_turned" UL ["_law_sheet","_law_often"] ft dt)(GT:Z6 P w K mg base CX0 2 ft dt ["_law_sheet","_law_often"] Zet)(FB:Fn K mg "_law_back" Wm ["_law_row"] fb db)(GB:Z6 P w K mg base CX0 1 fb db ["_law_row"] Sf)(F:Fn K mg "_law_changed" UX ["_law_sheet","_law_cell"] f fd):Z6 P w K mg base CX0 3 f fd ["_law_sheet","_law_cell"] (spLc kv K):=by
 refine F.F.ok Vf (fun vs H Q E h=>?_) (fun cdv A outer s H vs Q E hr h=>?_)
 ·obtain⟨a,c,n,r,u,rfl,_⟩:=h;rfl
 ·obtain⟨a,c,n,r,u,rfl,hsh,hS,k⟩:=h;have hr1:ZR 1 _:=hr.mono (by decide);have hr2:ZR 2 _:=hr.mono (by decide);have two:2<=sizeLine:=by decide
  have four:4<=sizeLine:=by decide
  have big:100000<=sizeLine:=by decide
  have rr:=hS.row;have ru:=hS.col;have hn:=hS.most;obtain⟨p,q,h1,h2,h3⟩:=id hsh;refine⟨_,(Z5 (ZP (i:=2) Vf.nd rfl (Or.inl rfl) (ZJ YF (pv 1) Z3))
   (Z5 (ZP (i:=3) Vf.nd rfl (Or.inl rfl) (ZJ Wt (ZJ YF (ZJ XZ (pv 1) Z3) Z3) Z3))
   (Z5 (Zu (Zt Ze (ZJ YF (ZJ XZ (pv 1) Z3) Z3) Z3 (Zw _)) (Z1 (ZP (i:=3) Vf.nd rfl (Or.inl rfl) (ZJ Wt (ZJ YF (ZJ XZ (pv 1) Z3) Z3) Z3))) Zr)
   (Z5 (Zu (Zt Vo (pv 2) Z3 (Zw _)) (Z5 (ZP (i:=4) Vf.nd rfl (Or.inl rfl) (ZY ZA (Y2 (Z9 Z3 (Z9 Z3 (Z9 Z3 (Z9 Z3 Z8))))) (ZJ YF (ZJ XZ (pv 1) Z3) Z3) (fun _ _=>rfl)))
   (Z5 (ZP (i:=5) Vf.nd rfl (Or.inl rfl) (ZU GM hr2 rfl FM.m FM.F.kp FM.b .nil ZX (Z9 (ZJ XZ (pv 1) Z3) (Z9 (ZJ Xf Z3 (ZJ YF (ZJ XZ (pv 1) Z3) (pv 4))) Z8))))
   (Z1 (ZS (Y2 (Z9 (ZJ YI ZH (ZU GW hr1 rfl FW.m FW.F.kp FW.b .nil ZX (Z9 (pv 5) Z8))) (Z9 (pv 5) Z8))))))) Zr)
   (Z5 (Zu (Zt Vo (pv 2) Z3 (Zw _)) (Z1 (ZS (Y2 (Z9 (ZJ YI ZH (Y7 Xb rfl Ts Xo (Z9 (pv 3) Z8))) (Z9 (ZU GS hr1 rfl FS.m FS.F.kp FS.b .nil ZX (Z9 (pv 0) (Z9 (pv 3) Z8))) Z8))))) Zr)
   (Z5 (Zu (Zt Vo (pv 2) Z3 (Zw _)) (Z1 (ZS (Y2 (Z9 (ZJ YI ZH (Y7 Xb rfl Ts Xo (Z9 (pv 3) Z8))) (Z9 (ZU GT hr2 rfl FT.m FT.F.kp FT.b .nil ZX (Z9 (pv 0) (Z9 (pv 3) Z8))) Z8))))) Zr)
   (Z5 (Zu (Zt Ze (ZJ YF (ZJ XZ (pv 1) Z3) Z3) Z3 (Zw _)) (Z1 (ZS (Y2 (Z9 ZH (Z9 (Y2 (Z9 (Y7 XH rfl T.tuple Yg (Z9 (ZU GB hr1 rfl FB.m FB.F.kp FB.b .nil ZX (Z9 (ZY ZA (pv 0) Z3 (fun _ _=>rfl)) Z8)) Z8)) (Z9 (ZY ZA (pv 0) Z3 (fun _ _=>rfl)) Z8))) Z8))))) Zr)
   (Z1 (ZS (Y2 (Z9 ZH (Z9 (Y2 (Z9 (ZY ZA (pv 0) Z3 (fun _ _=>rfl)) (Z9 (Y7 XH rfl T.tuple Yg (Z9 (ZU GB hr1 rfl FB.m FB.F.kp FB.b .nil ZX (Z9 (ZY ZA (pv 0) Z3 (fun _ _=>rfl)) Z8)) Z8)) Z8))) Z8)))))))))))),?_⟩
  refine⟨_,rfl,_,_,rfl,rfl,(by show (0:Int)<10;decide),?_⟩;refine⟨_,rfl,_,_,rfl,rfl,⟨by decide,by decide⟩,_,_,rfl,rfl,(by show (0:Int)<19;decide),_,_,rfl,rfl,?_⟩;dsimp only [ZC];refine Z7M (fun σ H1=>∃ m:Int,σ=[some (.ref a),some (.int c),some (.int (c%10)),some (.int m),none,none]/\H=H1/\m.natAbs<=999) (fun N hN=>?_) ?_
  ·refine⟨_,rfl,_,_,rfl,rfl,⟨by decide,by decide⟩,_,_,rfl,rfl,(by show (0:Int)<6;decide),rfl,_,rfl,?_⟩;refine Yv (fun _=>?_) (fun _=>?_)
   ·refine⟨_,rfl,_,_,rfl,rfl,⟨by decide,by decide⟩,_,_,rfl,rfl,(by show (0:Int)<1999;decide),_,_,rfl,rfl,?_⟩;exact hN _ _ ⟨_,rfl,rfl,by omega⟩
   ·exact hN _ _ ⟨_,rfl,rfl,by omega⟩
  rintro σ H1 ⟨m,rfl,rfl,hm⟩;have hN:=ZbE hm;have hdl:=hN.len;refine⟨_,rfl,_,_,rfl,rfl,_,rfl,?_⟩;refine Yv (fun _=>?_) (fun _=>?_)
  ·refine⟨four,fun tp htp=>?_⟩;have sT:=Z4 (o:=.tup [V.int 12,V.int 12,V.int 36,V.int 12]) (Z7.refl H) htp;have eT:(upd H tp (.tup [V.int 12,V.int 12,V.int 36,V.int 12])) tp=some (.tup [V.int 12,V.int 12,V.int 36,V.int 12]):=Z2;generalize upd H tp (.tup [V.int 12,V.int 12,V.int 36,V.int 12])=H1 at sT eT;obtain⟨x,hx⟩:∃ x:Nat,c/20%4=(x:Int):=⟨(c/20%4).toNat,by omega⟩;obtain⟨mo,hmo,hm1,hm2⟩:∃ mo:Nat,([V.int 12,V.int 12,V.int 36,V.int 12]:List V)[x]?=some (V.int (mo:Int))/\1<=mo/\mo<=36:=by
    match x,(by omega:x<4) with
    | 0,_=>exact⟨12,rfl,by decide,by decide⟩
    | 1,_=>exact⟨12,rfl,by decide,by decide⟩
    | 2,_=>exact⟨36,rfl,by decide,by decide⟩
    | 3,_=>exact⟨12,rfl,by decide,by decide⟩
   refine⟨_,rfl,_,_,rfl,rfl,⟨by decide,by decide⟩,_,_,rfl,rfl,(by show (0:Int)<4;decide),tp,_,(x:Int),_,rfl,by show V.int (c/20%4)=_;rw[hx],SqT.of eT,ZV hmo,?_⟩;dsimp only [ZC];obtain⟨n0,hn0⟩:∃ n0:Nat,1+c/10%(mo:Int)=(n0:Int):=⟨(1+c/10%(mo:Int)).toNat,by have:=Y30 (c/10) (show (mo:Int)≠0 by omega);omega⟩;have b1:=Y30 (c/10) (show (mo:Int)≠0 by omega);have b2:=Y3d (c/10) (show (0:Int)<(mo:Int) by omega);refine⟨_,rfl,_,_,rfl,rfl,⟨by decide,by decide⟩,_,rfl,_,_,rfl,rfl,⟨by decide,by decide⟩,_,rfl,_,_,rfl,rfl,(by show (0:Int)<(mo:Int);omega),_,_,rfl,rfl,c/360,n0,by show [V.int (c/360),V.int (1+c/10%(mo:Int))]=_;rw[hn0],by omega,by omega,fun H2 b n' r' u' s2 hb hS' _=>?_⟩;dsimp only [ZC];have l1:=(ZK.len36 hS').1;have l2:=(ZK.len36 hS').2;refine⟨_,rfl,b,n',r',u',rfl,hb,hS',fun H3 s3=>?_⟩;have e6:(Str.ofString "sheet ")=txt (cp (Str.ofString "sheet")++[32]):=(by decide +kernel);have l0:(cp (Str.ofString "sheet")).length=5:=(by decide +kernel);refine⟨_,_,rfl,rfl,by rw[e6,ZD,ZD];simp only[Y09,Y0f,Y28,YX,l0];omega,?_⟩;rw[e6,Zh];refine⟨_,rfl,two,fun t ht=>?_⟩;have s4:=Z4 (o:=.tup [V.str (txt (cp (Str.ofString "sheet")++[32]++(ZL r'++[32]++ZL u'))),V.ref b]) (Z7.refl H3) ht;refine k _ t b n' 4 0 r' u' (cp (Str.ofString "sheet")++[32]++(ZL r'++[32]++ZL u')) _ (sT.trans (s2.trans (s3.trans s4))) Z2 (by have:=Zbm hkv hS';simpa using this) (.inr (.inr (.inr (.inr ⟨rfl,rfl⟩)))) (fun _=>hS') ?_;unfold chg;rw[if_pos rfl];exact hb.same (s3.trans s4)
  refine⟨_,rfl,_,_,rfl,rfl,_,rfl,?_⟩;refine Yv (fun _=>?_) (fun _=>?_)
  ·have e6:(Str.ofString "shear ")=txt (cp (Str.ofString "shear")++[32]):=(by decide +kernel);have l0:(cp (Str.ofString "shear")).length=5:=(by decide +kernel);refine⟨_,rfl,m,rfl,Y2y (VD (by omega)) (by decide),_,_,rfl,rfl,by rw[<-Yl,e6,ZD,ZD];simp only[Y09,Y0f,Y28,l0];omega,?_⟩;rw[<-Yl,e6,Zh];refine⟨_,rfl,_,rfl,a,n,r,u,m,rfl,hsh,rr,ru,hn,fun H2 b s2 hb=>?_⟩;refine⟨two,fun t ht=>?_⟩;have s4:=Z4 (o:=.tup [V.str (txt (cp (Str.ofString "shear")++[32]++dg m)),V.ref b]) (Z7.refl H2) ht;refine k _ t b n 0 m r u (cp (Str.ofString "shear")++[32]++dg m) [.str "shear",.int m] (s2.trans s4) Z2 ?_ (.inl ⟨rfl,rfl⟩) (fun z=>by cases z) ?_
   ·have:=Z8d hkv.shear (by decide +kernel) hN.bl (by rw[l0];omega) (.num hm)
    simpa using this
   ·unfold chg;rw[if_neg (by decide)];exact hb.same s4
  refine⟨_,rfl,_,_,rfl,rfl,_,rfl,?_⟩;refine Yv (fun _=>?_) (fun _=>?_)
  ·have e6:(Str.ofString "turn ")=txt (cp (Str.ofString "turn")++[32]):=(by decide +kernel);have l0:(cp (Str.ofString "turn")).length=4:=(by decide +kernel);refine⟨_,rfl,m,rfl,Y2y (VD (by omega)) (by decide),_,_,rfl,rfl,by rw[<-Yl,e6,ZD,ZD];simp only[Y09,Y0f,Y28,l0];omega,?_⟩;rw[<-Yl,e6,Zh];refine⟨_,rfl,_,rfl,a,n,r,u,m,rfl,hsh,rr,ru,hn,fun H2 b s2 hb=>?_⟩;refine⟨two,fun t ht=>?_⟩;have s4:=Z4 (o:=.tup [V.str (txt (cp (Str.ofString "turn")++[32]++dg m)),V.ref b]) (Z7.refl H2) ht;refine k _ t b n 1 m r u (cp (Str.ofString "turn")++[32]++dg m) [.str "turn",.int m] (s2.trans s4) Z2 ?_ (.inr (.inl ⟨rfl,rfl⟩)) (fun z=>by cases z) ?_
   ·have:=Z8d hkv.turn (by decide +kernel) hN.bl (by rw[l0];omega) (.num hm)
    simpa using this
   ·unfold chg;rw[if_neg (by decide)];exact hb.same s4
  have mir:∀ (w:String) (kd:Nat),Str.ofString ("mirror "++w)=txt (cp (Str.ofString "mirror")++32::cp (Str.ofString w))->(Str.ofString w=Str.ofString "across"\/Str.ofString w=Str.ofString "up")->WW kv K (cp (Str.ofString "mirror")++32::cp (Str.ofString w)) [.str "mirror",.str (Str.ofString w)]:=by
   intro w kd e hw;have h32:32∉cp (Str.ofString w)/\(cp (Str.ofString w)).length<=10:=by
    rcases hw with hw|hw<;>rw[hw]<;>exact⟨by decide +kernel,by decide +kernel⟩
   have l0:(cp (Str.ofString "mirror")).length=6:=(by decide +kernel);have hTh:Th "side" (cp (Str.ofString w)) (.str (txt (cp (Str.ofString w)))):=.side (by rw[Yb];exact hw);have:=Z8d hkv.mirror (by decide +kernel) h32.1 (by rw[l0];have:=h32.2;omega) hTh
   rwa [Yb]at this
  refine⟨_,rfl,_,_,rfl,rfl,⟨by decide,by decide⟩,_,_,rfl,rfl,(by show (0:Int)<2;decide),rfl,_,rfl,?_⟩;refine Yv (fun _=>?_) (fun _=>?_)
  ·refine⟨_,rfl,a,_,0,_,rfl,rfl,SqT.of h1,ZV (j:=0) rfl,p,n,r,rfl,h2,rr,hn,fun H2 lb s2 _ hlb=>?_⟩;refine⟨lb,_,rfl,.inl ⟨SqL.of hlb,fun tb htb=>?_⟩⟩;have s3:=Z4 (o:=.tup (nv (back r))) (Z7.refl H2) htb;have e3:(upd H2 tb (.tup (nv (back r)))) tb=some (.tup (nv (back r))):=Z2;generalize upd H2 tb (.tup (nv (back r)))=H3 at s3 e3;refine⟨_,rfl,a,_,1,_,rfl,rfl,SqT.of ((s2.trans s3) _ _ h1),ZV (j:=1) rfl,two,fun b hb=>?_⟩;have s4:=Z4 (o:=.tup [V.ref tb,V.ref q]) (Z7.refl H3) hb;have e4:(upd H3 b (.tup [V.ref tb,V.ref q])) b=some (.tup [V.ref tb,V.ref q]):=Z2;generalize upd H3 b (.tup [V.ref tb,V.ref q])=H4 at s4 e4;refine⟨two,fun t ht=>?_⟩;have s5:=Z4 (o:=.tup [V.str (Str.ofString "mirror across"),V.ref b]) (Z7.refl H4) ht;have em:Str.ofString "mirror across"=txt (cp (Str.ofString "mirror")++32::cp (Str.ofString "across")):=(by decide +kernel);refine k _ t b n 2 0 r u _ _ (s2.trans (s3.trans (s4.trans s5))) (by rw[Z2,em]) (mir "across" 2 (by decide +kernel) (.inl rfl)) (.inr (.inr (.inl ⟨rfl,rfl⟩))) (fun z=>by cases z) ?_;show ZN _ b (back r) u;exact⟨tb,q,s5 _ _ e4,s5 _ _ (s4 _ _ e3),s5 _ _ (s4 _ _ ((s2.trans s3) _ _ h3))⟩
  ·refine⟨_,rfl,a,_,0,_,rfl,rfl,SqT.of h1,ZV (j:=0) rfl,?_⟩;refine⟨_,rfl,a,_,1,_,rfl,rfl,SqT.of h1,ZV (j:=1) rfl,q,n,u,rfl,h3,ru,hn,fun H2 lb s2 _ hlb=>?_⟩;refine⟨lb,_,rfl,.inl ⟨SqL.of hlb,fun tb htb=>?_⟩⟩;have s3:=Z4 (o:=.tup (nv (back u))) (Z7.refl H2) htb;have e3:(upd H2 tb (.tup (nv (back u)))) tb=some (.tup (nv (back u))):=Z2;generalize upd H2 tb (.tup (nv (back u)))=H3 at s3 e3;refine⟨two,fun b hb=>?_⟩;have s4:=Z4 (o:=.tup [V.ref p,V.ref tb]) (Z7.refl H3) hb;have e4:(upd H3 b (.tup [V.ref p,V.ref tb])) b=some (.tup [V.ref p,V.ref tb]):=Z2;generalize upd H3 b (.tup [V.ref p,V.ref tb])=H4 at s4 e4;refine⟨two,fun t ht=>?_⟩;have s5:=Z4 (o:=.tup [V.str (Str.ofString "mirror up"),V.ref b]) (Z7.refl H4) ht;have em:Str.ofString "mirror up"=txt (cp (Str.ofString "mirror")++32::cp (Str.ofString "up")):=(by decide +kernel);refine k _ t b n 3 0 r u _ _ (s2.trans (s3.trans (s4.trans s5))) (by rw[Z2,em]) (mir "up" 3 (by decide +kernel) (.inr rfl)) (.inr (.inr (.inr (.inl ⟨rfl,rfl⟩)))) (fun z=>by cases z) ?_;show ZN _ b r (back u);exact⟨p,tb,s5 _ _ e4,s5 _ _ (s4 _ _ ((s2.trans s3) _ _ h2)),s5 _ _ (s4 _ _ e3)⟩
end
def spNd (C:Addr):Sp:=fun vs H Q _=>∃ (d dx c e:Addr) (n:Nat) (r u:List Nat),vs=[.ref d]/\Dsk C H d dx c e []/\ZN H c r u/\ZK n r u/\∀ H':Hp,Z7 H H'->Q (.bl true) H'
section
variable {P:Program}{w:World}{K:Y00}{mg:Str->Option Value}{base:Heap}
noncomputable abbrev ZiW:List Str:=["_law_desk","_law_refused"]
theorem ZaC:ZO ZiW ["_law_desk"] (Z0 U7):=⟨rfl,rfl,rfl,by decide +kernel,rfl,by decide +kernel,by decide +kernel⟩
theorem ZgE {f fs C CN:Addr}{fd ds:FuncData}{kv:List (Key×Value)}(hkv:Xu kv K)(T:KTx K C)(fN:Vd K CN)(mN:mg "NothingDone"=some (.ref CN))(tt:Y2o K (.ref CN) (.ref CN)=some true)(FSa:MFn K C "say" "Desk.say" Vi ["self","row"] fs ds)(GSa:Z6 P w K mg base (CX1 P w) 11 fs ds ["self","row"] (T6 kv K C CN))(F:Fn K mg "_law_nothing_done" U7 ["_law_desk"] f fd):Z6 P w K mg base CX0 12 f fd ["_law_desk"] (spNd C):=by
 refine F.F.ok ZaC (fun vs H Q E h=>?_) (fun cdv A outer s H vs Q E hr h=>?_)
 ·obtain⟨d,dx,c,e,n,r,u,rfl,_⟩:=h;rfl
 ·obtain⟨d,dx,c,e,n,r,u,rfl,hd,hc,hS,k⟩:=h;refine⟨_,Z5 (ZP (i:=1) ZaC.nd rfl (Or.inl rfl) Yy)
   (Z5 (ZgM rfl rfl (fun E' σ' pn W hx=>Zcr (ZcI (pv 0) T.cl FSa.m GSa hr FSa.b .nil hx (Z9 ZH Z8)))
    (Zid (ts:=Xv (tC (.bl true)) (ZC 1)) rfl fN.h rfl mN (fun pn e=>Z1 (ZP (i:=1) ZaC.nd rfl (Or.inl rfl) Yy)) ZhB))
   (Z1 (ZS (pv 1)))),?_⟩
  refine⟨fun C' d' H'=>C'=.ref CN/\Z7 H H',?_,?_⟩
  ·refine⟨_,rfl,d,dx,_,rfl,hd.at_,W0 (by decide +kernel) (by decide +kernel),?_⟩;exact⟨d,dx,c,e,[],n,r,u,cp "undo",_,by rw[Yb];rfl,hd,by simp,hc,hS,Z92 hkv,.inr (.inl ⟨rfl,fun _ H' s'=>⟨rfl,s'⟩,fun as' c' ea=>absurd ea (by simp)⟩)⟩
  ·rintro C' d' H' ⟨rfl,sh⟩;refine⟨true,tt,Zo ?_⟩;exact⟨_,rfl,k _ sh⟩
end
end K1
namespace Sq
section
variable {n:Nat}{w:List Nat}
noncomputable def Ys (n:Nat)(w:List Nat)(b:Nat):List Nat:=(Y03 n).filter fun y=>decide (y∉Zd n w b)
theorem Uz {b y:Nat}:y∈Zd n w b↔∃ l,l<b/\Zq n w l=true/\y∈cyc n w l:=by
 constructor
 ·intro h;obtain⟨M,hM,hy⟩:=Y1z.mp h;obtain⟨l,hl,rfl⟩:=Y0d.mp hM;obtain⟨h1,h2⟩:=Y0s.mp hl;exact⟨l,Y08.mp h1,h2,hy⟩
 ·rintro ⟨l,h1,h2,h3⟩;exact Y1z.mpr ⟨_,Y0d.mpr ⟨l,Y0s.mpr ⟨Y08.mpr h1,h2⟩,rfl⟩,h3⟩
theorem Zcq (h:Row n w){b y:Nat}(hy:y<n)(hb:y<b):y∈Zd n w b:=by
 obtain⟨l,h1,h2,h3⟩:=UF h hy;have:=W6.mp h2 y h3;exact Uz.mpr ⟨l,by omega,h2,h3⟩
theorem ZaG {p:Nat->Bool}{b x:Nat}(hb:b<=x)(hx:p x=true)(no:∀ y,b<=y->y<x->p y=false):(Y03 (x+1)).filter p=(Y03 b).filter p++[x]:=by
 rw[Y1i,Y10,Y13 hx,Y3x];congr 1;obtain⟨k,rfl⟩:∃ k,x=b+k:=⟨x-b,by omega⟩;rw[List.range_add,Y10];have:((Y03 k).map (b + ·)).filter p=[]:=by
  refine List.filter_eq_nil_iff.mpr fun y hy=>?_;obtain⟨j,hj,rfl⟩:=Y0d.mp hy;have hj:=Y08.mp hj;show ¬ p (b+j)=true;rw[no (b+j) (by omega) (by omega)];decide
 rw[this,Y1h]
theorem Zca (h:Row n w){b x:Nat}{rest:List Nat}(e:Ys n w b=x::rest):x<n/\Zq n w x=true/\(Y03 (x+1)).filter (Zq n w)=(Y03 b).filter (Zq n w)++[x]/\Ys n w (x+1)=(x::rest).filter fun y=>decide (y∉cyc n w x):=by
 have hm:x∈Ys n w b:=by rw[e];simp
 obtain⟨m1,m2⟩:=Y0s.mp hm;have hx:=Y08.mp m1;have hn:=of_decide_eq_true m2;have hbx:b<=x:=by
  rcases Y0x x b with c|c
  ·exact absurd (Zcq h hx c) hn
  ·exact c
 have hmin:∀ y,y<x->y∈Zd n w b:=by
  intro y hy;cases d:decide (y∈Zd n w b) with
  | true=>exact of_decide_eq_true d
  | false=>
   have hy2:y∈Ys n w b:=Y0s.mpr ⟨Y08.mpr (by omega),decide_eq_true (of_decide_eq_false d)⟩;have sorted:(Ys n w b).Pairwise (· < ·):=List.Pairwise.filter _ Y2s;rw[e]at hy2 sorted;rcases Y0k.mp hy2 with rfl|hy3
   ·omega
   ·have:=(Y3c.mp sorted).1 y hy3;omega
 have hl:Zq n w x=true:=by
  obtain⟨l,h1,h2,h3⟩:=UF h hx;have hle:=W6.mp h2 x h3;rcases Y0x l x with c|c
  ·obtain⟨l',q1,q2,q3⟩:=Uz.mp (hmin l c);have:=V8 h h1 (by omega) h2 q2 (Xz h h1 0) q3;subst this;exact absurd (Uz.mpr ⟨l,q1,h2,h3⟩) hn
  ·have:l=x:=(by omega);rw[<-this];exact h2
 have hcut:(Y03 (x+1)).filter (Zq n w)=(Y03 b).filter (Zq n w)++[x]:=by
  refine ZaG hbx hl fun y h1 h2=>?_;cases d:Zq n w y with
  | false=>rfl
  | true=>
   obtain⟨l',q1,q2,q3⟩:=Uz.mp (hmin y h2);have:=V8 h (by omega) (by omega) d q2 (Xz h (by omega) 0) q3;omega
 refine⟨hx,hl,hcut,?_⟩;have hup:Zd n w (x+1)=Zd n w b++cyc n w x:=by
  unfold Zd;rw[hcut,Y0t,Y22];simp
 rw[<-e];unfold Ys;rw[hup,List.filter_filter];refine List.filter_congr fun y _=>?_;rw[<-Bool.decide_and];refine decide_eq_decide.mpr ?_;rw[Y1d];constructor
 ·intro z;exact⟨fun q=>z (.inr q),fun q=>z (.inl q)⟩
 ·rintro ⟨z1,z2⟩ (q|q)
  ·exact z2 q
  ·exact z1 q
theorem ZcB (h:Row n w){b:Nat}(hb:b<=n)(e:Ys n w b=[]):(Y03 n).filter (Zq n w)=(Y03 b).filter (Zq n w):=by
 obtain⟨k,rfl⟩:∃ k,n=b+k:=⟨n-b,by omega⟩;rw[List.range_add,Y10];have:((Y03 k).map (b + ·)).filter (Zq (b+k) w)=[]:=by
  refine List.filter_eq_nil_iff.mpr fun y hy d=>?_;obtain⟨j,hj,rfl⟩:=Y0d.mp hy;have hj:=Y08.mp hj;have hin:b+j∈Zd (b+k) w b:=by
   cases q:decide (b+j∈Zd (b+k) w b) with
   | true=>exact of_decide_eq_true q
   | false=>
    have:b+j∈Ys (b+k) w b:=Y0s.mpr ⟨Y08.mpr (by omega),decide_eq_true (of_decide_eq_false q)⟩;rw[e]at this;cases this
  obtain⟨l',q1,q2,q3⟩:=Uz.mp hin;have:=V8 h (by omega) (by omega) d q2 (Xz h (by omega) 0) q3;omega
 rw[this,Y1h]
theorem Z9D:Ys n w 0=Y03 n:=by
 unfold Ys;refine List.filter_eq_self.mpr fun y _=>?_;exact decide_eq_true (by simp[Zd])
theorem ZbY (b:Nat):(Ys n w b).length<=n:=by
 have:=Y0u (fun y=>decide (y∉Zd n w b)) (Y03 n)
 rwa [Y0m]at this
end
end Sq
namespace K1
open PySem L2 Sq
theorem Z8Q {K:Y00}{Hc:Hp}{p:Addr}{M:List Nat}{j:Nat}{te:TE}{pull:List Nat}{Q:VK}{σ rest:St}(f:Nat->List Nat)(hj:σ[j]?=some (some (.ref p)))(hp:Hc p=some (.lst (nv M)))(hb:bst 1 pull σ=none::rest)
  (hte:∀ (x:Nat) (H:Hp) (R:VK),x∈M->Z7 Hc H->R (.str (txt (f x))) H->te (some (.int (x:Int))::rest) H R) (hn:M.length<=1000)
  (k:∀ (H':Hp) (d:Addr),Z7 Hc H'->H' d=some (.lst (sv (M.map f)))->Q (.ref d) H') :
  YO (Yr K (ZW j)) 1 pull (ZC 0) te σ Hc Q:=by
 refine⟨_,hj,p,rfl,⟨_,SqL.of hp⟩,fun d hd=>?_⟩;rw[hb];refine YR (Q:=fun d H'=>Q (.ref d) H') M.length (sv (M.map f)) (by rw[XB,Y05]) (fun i σ H3=>(∃ o,σ=o::rest)/\Z7 Hc H3) ⟨⟨_,rfl⟩,Z4 (Z7.refl _) hd⟩ ?_ ?_
 ·rintro i σ H3 hi ⟨⟨o,rfl⟩,s3⟩ hd3;have hp3:=SqL.of (K:=K) (s3 _ _ hp);have hg:=Zy (Y01 hi);refine⟨⟨_,_,hp3,hg⟩,fun y H4 ⟨e,hy⟩=>?_⟩;subst e;have hy:=hy _ hp3;rw[hg]at hy;cases hy;refine hte _ _ _ (Y15 hi) s3 ?_;exact YN hi hn hd3 (Zaf (by simp[hi])) ⟨⟨_,rfl⟩,Z4 s3 hd⟩
 ·rintro σ H3 ⟨⟨o,rfl⟩,s3⟩ hd3;exact⟨⟨_,SqL.of (s3 _ _ hp),by rw[ZQ];exact Y04 _⟩,k H3 d s3 hd3⟩
theorem Ze8 {K:Y00}{H:Hp}{d:Addr}{B:Nat}{zs:List (List Nat)}{Q:VK}(h:H d=some (.lst (sv zs)))(hn:zs.length<=1000)(hB:∀ z∈zs,z.length<=B)(hb:B<=1001)(q:Q (.str (txt zs.flatten)) H):WV K (.str (Str.ofString "")) [.ref d] H Q:=by
 refine⟨_,d,zs.map txt,rfl,rfl,.inl (SqL.of (by rw[ZaA];exact h)),?_,?_⟩
 ·have h1:=Z6o hB;have h2:zs.length*B<=1000*1001:=Nat.mul_le_mul hn hb;rw[Y05,VT,ZD];show _+zs.length*0<=_;omega
 ·rw[VT,Z8A];exact q
theorem ZcL {K:Y00}{Hc:Hp}{lf:Addr}{L:List Nat}{j:Nat}{tt:TT}{pull:List Nat}{Q:VK}{σ:St}{rest:St}(p:Nat->Bool)(hj:σ[j]?=some (some (.ref lf)))(hp:Hc lf=some (.lst (nv L)))(hb:bst 1 pull σ=none::rest)
  (htt:∀ (x:Nat) (H:Hp) (R:Bool->Hp->Prop),x∈L->Z7 Hc H->R (p x) H->tt (some (.int (x:Int))::rest) H R) (hm:L.length<=1000)
  (k:∀ (H':Hp) (d:Addr),Z7 Hc H'->Hc d=none->H' d=some (.lst (nv (L.filter p)))->Q (.ref d) H') :
  Wy (Yr K (ZW j)) 1 pull (ZC 0) tt (ZW 0) σ Hc Q:=by
 refine⟨_,hj,lf,rfl,⟨_,SqL.of hp⟩,fun d hd=>?_⟩;rw[hb];refine Tr (Q:=fun d H'=>Q (.ref d) H') L.length (fun i xs σ H9=>(∃ o,σ=o::rest)/\Z7 Hc H9/\xs=nv ((L.take i).filter p)) ⟨⟨_,rfl⟩,Z4 (Z7.refl _) hd,by simp;rfl⟩ ?_ ?_
 ·rintro i xs σ H4 hi ⟨⟨o,rfl⟩,s4,rfl⟩ he4;have hp4:=SqL.of (K:=K) (s4 _ _ hp);have hg:=Zy (Y01 hi);refine⟨⟨_,_,hp4,hg⟩,fun y H5 ⟨e1,hy⟩=>?_⟩;subst e1;have hy:=hy _ hp4;rw[hg]at hy;cases hy;have et:(L.take (i+1)).filter p=(L.take i).filter p++[L[i]].filter p:=by
   rw[List.take_succ,Y01 hi,Y10];rfl
  have hle:=Y0u p (L.take i);rw[Y1m]at hle;refine htt _ _ _ (Y15 hi) s4 ?_
  by_cases c:p L[i]=true
  ·rw[c];refine Zo ?_;refine⟨_,rfl,T5 hi he4 (by rw[ZQ];omega) ⟨⟨_,rfl⟩,Z4 s4 hd,?_⟩⟩;rw[et,Y13 c,XD];rfl
  ·rw[Bool.not_eq_true]at c;rw[c];refine ZG ?_;refine Ss hi he4 ⟨⟨_,rfl⟩,s4,?_⟩;rw[et,Y1e (by rw[c];decide),Y3x,Y1h]
 ·rintro xs σ H4 ⟨⟨o,rfl⟩,s4,rfl⟩ he4;refine⟨⟨_,SqL.of (s4 _ _ hp),by rw[ZQ];exact Y04 _⟩,k H4 d s4 hd ?_⟩;rw[Y2a]at he4;exact he4
theorem Tc (b:Nat)(g:Nat->Nat):∀ M:List Nat,(M.map fun x=>[b,sg (g x)]).flatten++[b]=btw b (M.map g)
 | []=>rfl
 | x::M=>by
  have:=Tc b g M;unfold btw at this ⊢;rw[Y0w,Y1u,Y0w,Y47,Y2c,this];rfl
noncomputable def TV (l:Addr)(H:Hp):Nat:=match H l with|some (.lst xs)=>xs.length|_=>0
theorem ZaB {l:Addr}{H:Hp}{xs:List V}(h:H l=some (.lst xs)):TV l H=xs.length:=by unfold TV;rw[h]
noncomputable def mu4 (σ:St)(H:Hp):Nat:=match (σ[2]?:Option (Option V)) with
 | some (some (V.ref l))=>TV l H
 | _=>0
noncomputable def drU (n:Nat)(r u:List Nat)(b:Nat):List (List Nat):=drM u (((Y03 b).filter (Zq n r)).map (cyc n r))
theorem Z8f (u:List Nat):∀ Ms:List (List Nat),(drM u Ms).length=2*Ms.length
 | []=>rfl
 | M::Ms=>by
  show ([btw 32 (M.map (nx u)),btw 124 M]++drM u Ms).length=_;rw[Y09,Z8f u Ms];show 2+2*Ms.length=2*(Ms.length+1);omega
theorem Zfs (u:List Nat)(Ms:List (List Nat))(M:List Nat):drM u (Ms++[M])=drM u Ms++[btw 32 (M.map (nx u)),btw 124 M]:=by
 unfold drM;rw[List.flatMap_append];simp
def spLw:Sp:=fun vs H Q _=>∃ (a:Addr) (n:Nat) (r u:List Nat),vs=[.ref a]/\ZN H a r u/\Row n r/\Row n u/\n<=36/\∀ (H':Hp) (l:Addr),Z7 H H'->H l=none->H' l=some (.lst (sv (drM u (Zp n r))))->Q (.ref l) H'
noncomputable abbrev teD1 (K:Y00):TE:=tOp (fun x y H Q=>∃ i j,x=.str i/\y=.str j/\i.length+j.length<=sizeLine/\Q (.str (i++j)) H) (tC (.str (Str.ofString " "))) (tOp Xd (ZW 2) (tOp (Yp K) (tOp (Yp K) (ZW 1) (tC (.int 1))) (ZW 0)))
noncomputable abbrev teD2:TE:=tOp (fun x y H Q=>∃ i j,x=.str i/\y=.str j/\i.length+j.length<=sizeLine/\Q (.str (i++j)) H) (tC (.str (Str.ofString "|"))) (tOp Xd (ZW 1) (ZW 0))
section
variable {P:Program}{w:World}{K:Y00}{mg:Str->Option Value}{base:Heap}
noncomputable abbrev Sl:List Str:=["_law_sheet","_law_some","_law_left","_law_texts","_law_around"]
theorem Vk:ZO Sl ["_law_sheet"] (Z0 W9):=⟨rfl,rfl,rfl,by decide +kernel,rfl,by decide +kernel,by decide +kernel⟩
theorem Zj0:(["_law_square","_law_some"]:List Str).Nodup:=by decide +kernel
theorem Zga:(["_law_square","_law_sheet","_law_some"]:List Str).Nodup:=by decide +kernel
theorem ZhC:(["_law_square","_law_around"]:List Str).Nodup:=by decide +kernel
set_option maxHeartbeats 2000000 in
theorem ZjH {f:Addr}{fd:FuncData}(T:Bi mg)(F:Fn K mg "_law_drawing" W9 ["_law_sheet"] f fd):Z6 P w K mg base CX0 1 f fd ["_law_sheet"] spLw:=by
 refine F.F.ok Vk (fun vs H Q E h=>?_) (fun cdv A outer s H vs Q E hr h=>?_)
 ·obtain⟨a,n,r,u,rfl,_⟩:=h;rfl
 ·obtain⟨a,n,r,u,rfl,⟨p,q,h1,h2,h3⟩,rr,ru,hn,k⟩:=h;have one:1<=sizeLine:=by decide
  have big:1000<=sizeLine:=by decide
  refine⟨_,(Z5 (ZP (i:=1) Vk.nd rfl (Or.inr rfl) ZH)
   (Z5 (ZP (i:=2) Vk.nd rfl (Or.inl rfl) (Y7 (Z3K rfl) rfl T.list To (Z9 (Y7 Z4P rfl T.range PyProof.Rows.boot_range (Z9 (ZF Zk rfl T.len PySem.boot_len (Z9 (ZY ZA (pv 0) Z3 (fun _ _=>rfl)) Z8)) Z8)) Z8)))
   (Z5 (ZP (i:=3) Vk.nd rfl (Or.inl rfl) (Y8 Z8))
   (Z5 (W3 PassesOwn.never (Zt Vm (ZF Zk rfl T.len PySem.boot_len (Z9 (pv 2) Z8)) Z3 (Zw _)) (Z5 (ZP (i:=4) Vk.nd rfl (Or.inr rfl) (Y8 (Z9 (ZY Zs (pv 2) Z3 (fun _ _=>rfl)) Z8)))
   (Z5 (W3 PassesOwn.never (Zt Vn (ZY ZA (ZY ZA (pv 0) Z3 (fun _ _=>rfl)) (ZY Zs (pv 4) (Ya Yc Z3) (fun _ _=>rfl)) (fun _ _=>rfl)) (ZY Zs (pv 4) Z3 (fun _ _=>rfl)) (Zw _)) (Z1 (Y3 (Zg PySem.F.plainAttrs_list PySem.F.slot_list_append PySem.F.type_list_append YU (pv 4) (Z9 (ZY ZA (ZY ZA (pv 0) Z3 (fun _ _=>rfl)) (ZY Zs (pv 4) (Ya Yc Z3) (fun _ _=>rfl)) (fun _ _=>rfl)) Z8)))))
   (Z5 (Z6X (j:=2) (N:=Sl) (names:=(Z0 W9).names) (N':=["_law_square","_law_around"]) (k:=1) (pull:=[4]) (tt:=Sz (tOp (rIn K true) (ZW 0) (ZW 1))) (te:=ZW 0) rfl Vk.nd rfl rfl ⟨by rfl,by decide +kernel,by decide +kernel,by rfl,by decide +kernel,by decide +kernel⟩ rfl rfl (Y5 (pv 2)) (fun _ _ _ _ _ _=>ZE (i:=0) ZhC rfl (Or.inl rfl)) (fun _ _ _ _ _ _=>Zt Z2F (pv 0) (pv 1) (by with_unfolding_all rfl)) (fun _ _ _ _ _ _=>pv 0))
   (Z5 (Y3 (Zg PySem.F.plainAttrs_list PySem.F.slot_list_append PySem.F.type_list_append YU (pv 3) (Z9 (ZJ YI (Zg PySem.F.plainAttrs_str PySem.F.slot_str_join PySem.F.type_str_join Xj ZH (Z9 (Y6 (N:=Sl) (names:=(Z0 W9).names) (N':=["_law_square","_law_sheet","_law_some"]) (k:=1) (pull:=[0,1]) (te:=teD1 K) rfl ⟨by rfl,by decide +kernel,by decide +kernel,by rfl,by decide +kernel,by decide +kernel⟩ rfl rfl (Y5 (pv 4)) (fun _ _ _ _ _ _=>ZE (i:=0) Zga rfl (Or.inl rfl)) (fun _ _ _ _ _ _=>ZJ YI ZH (ZY Vt (pv 2) (ZY ZA (ZY ZA (pv 1) Z3 (fun _ _=>rfl)) (pv 0) (fun _ _=>rfl)) (fun _ _=>rfl)))) Z8)) ZH) Z8)))
   (Z1 (Y3 (Zg PySem.F.plainAttrs_list PySem.F.slot_list_append PySem.F.type_list_append YU (pv 3) (Z9 (ZJ YI (Zg PySem.F.plainAttrs_str PySem.F.slot_str_join PySem.F.type_str_join Xj ZH (Z9 (Y6 (N:=Sl) (names:=(Z0 W9).names) (N':=["_law_square","_law_some"]) (k:=1) (pull:=[1]) (te:=teD2) rfl ⟨by rfl,by decide +kernel,by decide +kernel,by rfl,by decide +kernel,by decide +kernel⟩ rfl rfl (Y5 (pv 4)) (fun _ _ _ _ _ _=>ZE (i:=0) Zj0 rfl (Or.inl rfl)) (fun _ _ _ _ _ _=>ZJ YI ZH (ZY Vt (pv 1) (pv 0) (fun _ _=>rfl)))) Z8)) ZH) Z8)))))))))
   (Z1 (ZS (pv 3))))))),?_⟩
  refine Sm ?_;dsimp only [tC,ZC];refine⟨_,rfl,a,_,0,_,rfl,rfl,SqT.of h1,ZV (j:=0) rfl,p,_,rfl,.inr (SqT.of h2),(n:Int),by rw[ZQ,rr.len],fun r0 hr0=>⟨r0,n,rfl,Z2,by omega,fun lf hlf=>?_⟩⟩;refine⟨Y0y _,fun tx htx=>?_⟩;dsimp only [ZC];have sr:=Z4 (o:=.rng 0 (n:Int)) (Z7.refl H) hr0;have Hlf:H lf=none:=sr.free hlf;have sl:=Z4 (o:=.lst (nv (Y03 n))) sr Hlf;have Htx:H tx=none:=sl.free htx;have sx:=Z4 (o:=.lst []) sl Htx;have nlt:lf≠tx:=fun e=>by rw[<-e,Z2]at htx;cases htx
  have g1:(upd (upd (upd H r0 (.rng 0 (n:Int))) lf (.lst (nv (Y03 n)))) tx (.lst [])) lf=some (.lst (nv (Y03 n))):=by rw[ZZ nlt];exact Z2
  have g2:(upd (upd (upd H r0 (.rng 0 (n:Int))) lf (.lst (nv (Y03 n)))) tx (.lst [])) tx=some (.lst []):=Z2;generalize upd (upd (upd H r0 (.rng 0 (n:Int))) lf (.lst (nv (Y03 n)))) tx (.lst [])=H1 at sx g1 g2;refine WA (fun σ H2=>∃ (b:Nat) (lf:Addr) (o4:Option V),σ=[some (.ref a),some (.str SG),some (.ref lf),some (.ref tx),o4]/\Z7 H H2/\H2 lf=some (.lst (nv (Ys n r b)))/\H2 tx=some (.lst (sv (drU n r u b)))/\lf≠tx/\b<=n) mu4 ?_ ?_ ?_
  ·exact⟨0,lf,none,rfl,sx,by rw[Z9D];exact g1,g2,nlt,Y0y _⟩
  ·rintro σ H2 ⟨b,lf,o4,rfl,s2,hlf2,htx2,nlt,hbn⟩;refine⟨_,rfl,lf,_,rfl,.inl (SqL.of hlf2),_,_,rfl,rfl,_,rfl,?_⟩;rw[ZQ];cases e:Ys n r b with
   | nil=>
    rw[decide_eq_false (by simp)];refine ZG ?_;refine⟨_,rfl,k H2 tx s2 Htx ?_⟩;unfold Zp;rw[ZcB rr hbn e];exact htx2
   | cons x rest=>
    obtain⟨hx,hl,hcut,hleft⟩:=Zca rr e;rw[decide_eq_true (by simp)];refine Zo ?_;have hL:=ZbY (n:=n) (w:=r) b;rw[e]at hlf2;have hrl:(x::rest).length<=n:=(by rw[<-e];exact hL);refine⟨_,rfl,lf,_,0,_,rfl,rfl,SqL.of hlf2,ZV (j:=0) rfl,one,fun ar har=>?_⟩;dsimp only [ZC];have nax:tx≠ar:=Zv htx2 har;have nal:lf≠ar:=Zv hlf2 har;have Har:=s2.free har;have s3:=Z4 (o:=.lst [V.int (x:Int)]) (Z7.refl H2) har;have e3:(upd H2 ar (.lst [V.int (x:Int)])) ar=some (.lst [V.int (x:Int)]):=Z2;generalize upd H2 ar (.lst [V.int (x:Int)])=H3 at s3 e3;refine Z7M (fun σ H5=>σ=[some (.ref a),some (.str SG),some (.ref lf),some (.ref tx),some (.ref ar)]/\Z7 H2 H5/\H5 ar=some (.lst (nv (cyc n r x)))) (fun N hN=>?_) ?_
    ·refine WA (fun σ H5=>∃ kk,σ=[some (.ref a),some (.str SG),some (.ref lf),some (.ref tx),some (.ref ar)]/\Z7 H2 H5/\H5 ar=some (.lst (nv ((Y03 (kk+1)).map (it r x))))/\∀ i,1<=i->i<kk+1->it r x i≠x) (fun _ H=>muL ar H) ?_ ?_ ?_
     ·exact⟨0,rfl,s3,e3,fun i h1 h2=>absurd h2 (by omega)⟩
     ·rintro σ H5 ⟨kk,rfl,s5,h5,new⟩;have hle:=Wk rr hx new;have hM:((Y03 (kk+1)).map (it r x)).length=kk+1:=(by simp);have hlast:=Z7Q hM (show ((Y03 (kk+1)).map (it r x))[kk]?=some (it r x kk) by simp);have hfirst:((Y03 (kk+1)).map (it r x))[0]?=some x:=(by simp[it]);have hlt:=Y4 rr hx kk;have sA:=s2.trans s5;refine⟨_,rfl,a,_,0,_,rfl,rfl,SqT.of (sA _ _ h1),ZV (j:=0) rfl,_,rfl,_,rfl,ar,_,_,_,rfl,rfl,SqL.of h5,hlast,?_⟩;refine⟨p,_,_,_,rfl,rfl,SqT.of (sA _ _ h2),ZV (Zy (rr.get hlt)),?_⟩;refine⟨_,rfl,ar,_,0,_,rfl,rfl,SqL.of h5,ZV (j:=0) (Zy hfirst),rfl,_,rfl,?_⟩
      by_cases e9:nx r (it r x kk)=x
      ·refine So (by rw[e9]) ?_;have hC:Cyc r x ((Y03 (kk+1)).map (it r x)):=⟨by rw[hM];omega,by rw[hM],by rw[hM];exact e9,by rw[hM];exact new⟩;exact hN _ _ ⟨rfl,s5,by rw[<-hC.eq rr hx];exact h5⟩
      ·rw[decide_eq_false (by intro z;have:=V.int.inj z;exact e9 (by omega))];refine Zo ?_;refine⟨_,rfl,.inl ⟨rfl,_,SqL.of h5⟩,_,rfl,a,_,0,_,rfl,rfl,SqT.of (sA _ _ h1),ZV (j:=0) rfl,_,rfl,_,rfl,ar,_,_,_,rfl,rfl,SqL.of h5,hlast,?_⟩;refine⟨p,_,_,_,rfl,rfl,SqT.of (sA _ _ h2),ZV (Zy (rr.get hlt)),?_⟩;refine⟨ar,_,_,rfl,rfl,h5,by rw[ZQ,hM];exact Zj (by omega),?_⟩;have e2:nv ((Y03 (kk+1)).map (it r x))++[.int ((nx r (it r x kk):Nat):Int)]=nv ((Y03 (kk+1+1)).map (it r x)):=by
        rw[XD,Y1i (n:=kk+1),Y0t];rfl
       rw[e2];refine⟨⟨kk+1,rfl,Z4 s5 har,Z2,fun i h1 h2'=>?_⟩,?_⟩
       ·rcases Y0x i (kk+1) with c|c
        ·exact new i h1 c
        ·have:i=kk+1:=(by omega);subst this;exact e9
       ·rw[VC Z2,VC h5,ZQ,ZQ,hM];simp;omega
     ·rintro σ H Q Q' h ⟨v1,a1,v2,a2,v3,a3,v4,a4,a5,a6,v5,a7,v6,a8,v7,a9,v8,b1,b2,b3,b4,b5,b6,v9,b7,b8,b9,c1,c2,c3,c4,v10,c5,c6,c7,c8,c9,d1,d2,d3,d4,kk,d5,d6⟩;exact⟨v1,a1,v2,a2,v3,a3,v4,a4,a5,a6,v5,a7,v6,a8,v7,a9,v8,b1,b2,b3,b4,b5,b6,v9,b7,b8,b9,c1,c2,c3,c4,v10,c5,c6,c7,c8,c9,d1,d2,d3,d4,kk,d5,h _ _ d6⟩
    rintro σ H5 ⟨rfl,s5,h5⟩;have hcl:(cyc n r x).length<=n:=(YT rr hx).len rr hx;have hclt:∀ y∈cyc n r x,y<n:=fun y hy=>XO rr hx hy;have sA:=s2.trans s5;refine Sm (ZcL (K:=K) (rest:=[some (.ref ar)]) (fun y=>decide (y∉cyc n r x)) rfl (s5 _ _ hlf2) rfl (fun y H6 R hy s6 hR=>?_) (by omega) fun H6 l6 s6 f6 h6=>?_)
    ·refine⟨_,rfl,_,rfl,ar,_,rfl,.inl (SqL.of (s6 _ _ h5)),rfl,VL _,_,rfl,?_⟩;show R (!inV (.int (y:Int)) (nv (cyc n r x))) H6;rw[Vx,<-decide_not];exact hR
    rw[<-hleft]at h6;dsimp only [ZC];have h6a:=s6 _ _ h5;have h6t:=s6 _ _ (s5 _ _ htx2);have sB:=sA.trans s6;have n6t:l6≠tx:=fun z=>by rw[z,s5 _ _ htx2]at f6;cases f6
    have hFl:((Y03 b).filter (Zq n r)).length<=n:=by
     have h9:=Y0u (Zq n r) (Y03 b);rw[Y0m]at h9;omega
    have hdl:(drU n r u b).length<=80:=by
     unfold drU;rw[Z8f,Y05];omega
    have hbl:∀ (c:Nat) (g:Nat->Nat),∀ z∈(cyc n r x).map (fun y=>[c,sg (g y)]),z.length<=2:=fun c g z hz=>by obtain⟨y,_,rfl⟩:=Y0d.mp hz;exact Y04 _
    have hfl:∀ (c:Nat) (g:Nat->Nat),((cyc n r x).map fun y=>[c,sg (g y)]).flatten.length=2*(cyc n r x).length:=fun c g=>by
     have:=congrArg Y1k (Tc c g (cyc n r x));rw[Y09,Zfi,Y05]at this;simp only[Y0f,Y28]at this;omega
    refine⟨_,rfl,.inl ⟨rfl,_,SqL.of h6t⟩,rfl,?_⟩;dsimp only [ZM,Zx];refine Z8Q (K:=K) (rest:=[some (.ref a),some (.str SG)]) (fun y=>[32,sg (nx u y)]) rfl h6a rfl (fun y H7 R hy s7 hR=>?_) (by omega) fun H7 d7 s7 h7=>?_
    ·have hy':=hclt y hy;have sC:=sB.trans s7;refine⟨_,rfl,_,rfl,a,_,1,_,rfl,rfl,SqT.of (sC _ _ h1),ZV (j:=1) rfl,_,rfl,q,_,_,_,rfl,rfl,SqT.of (sC _ _ h3),ZV (Zy (ru.get hy')),?_⟩;refine⟨SG,_,sg (nx u y),rfl,rfl,by rw[Wp];omega,SQ (Y0i (ru.nlt hy') hn),_,_,rfl,rfl,by rw[YD,UD,ZD,ZD];show 1+1<=_;omega,?_⟩;rw[YD,UD,Zh];exact hR
    refine Ze8 h7 (by rw[Y05];omega) (hbl 32 (nx u)) (by decide) ?_;refine⟨_,_,rfl,rfl,by rw[YD,ZD,ZD,hfl 32 (nx u)];show _+1<=_;omega,?_⟩;rw[YD,Zh,Tc];have h7t:=s7 _ _ h6t;refine⟨tx,_,_,rfl,rfl,h7t,by rw[XB];exact Zj (by omega),?_⟩;have e8:sv (drU n r u b)++[V.str (txt (btw 32 ((cyc n r x).map (nx u))))]=sv (drU n r u b++[btw 32 ((cyc n r x).map (nx u))]):=(by unfold sv;rw[Y0t];rfl);rw[e8];have h8t:(upd H7 tx (.lst (sv (drU n r u b++[btw 32 ((cyc n r x).map (nx u))])))) tx=some (.lst (sv (drU n r u b++[btw 32 ((cyc n r x).map (nx u))]))):=Z2;have s8:Z7 H (upd H7 tx (.lst (sv (drU n r u b++[btw 32 ((cyc n r x).map (nx u))])))):=Z4 (sB.trans s7) Htx;have h8a:(upd H7 tx (.lst (sv (drU n r u b++[btw 32 ((cyc n r x).map (nx u))])))) ar=some (.lst (nv (cyc n r x))):=(by rw[ZZ nax.symm];exact s7 _ _ h6a);have h8l:(upd H7 tx (.lst (sv (drU n r u b++[btw 32 ((cyc n r x).map (nx u))])))) l6=some (.lst (nv (Ys n r (x+1)))):=(by rw[ZZ n6t];exact s7 _ _ h6);generalize upd H7 tx (.lst (sv (drU n r u b++[btw 32 ((cyc n r x).map (nx u))])))=H8 at s8 h8t h8a h8l;refine⟨_,rfl,.inl ⟨rfl,_,SqL.of h8t⟩,rfl,?_⟩;dsimp only [ZM,Zx];refine Z8Q (K:=K) (rest:=[some (.str SG)]) (fun y=>[124,sg y]) rfl h8a rfl (fun y H9 R hy s9 hR=>?_) (by omega) fun H9 d9 s9 h9=>?_
    ·have hy':=hclt y hy;refine⟨_,rfl,_,rfl,SG,_,sg y,rfl,rfl,by rw[Wp];omega,SQ (Y0i hy' hn),_,_,rfl,rfl,by rw[Uk,UD,ZD,ZD];show 1+1<=_;omega,?_⟩;rw[Uk,UD,Zh];exact hR
    refine Ze8 h9 (by rw[Y05];omega) (hbl 124 id) (by decide) ?_;have hf2:=hfl 124 id;have hb2:=Tc 124 id (cyc n r x);rw[Y4a]at hb2;refine⟨_,_,rfl,rfl,by rw[Uk,ZD,ZD];show (List.flatten ((cyc n r x).map fun y=>[124,sg (id y)])).length+1<=_;rw[hf2];omega,?_⟩;rw[Uk,Zh];show Za7 (.ref tx) [V.str (txt (((cyc n r x).map fun y=>[124,sg (id y)]).flatten++[124]))] _ _;rw[hb2];have h9t:=s9 _ _ h8t;refine⟨tx,_,_,rfl,rfl,h9t,by rw[XB,Y09];exact Zj (by simp;omega),?_⟩;have e10:sv (drU n r u b++[btw 32 ((cyc n r x).map (nx u))])++[V.str (txt (btw 124 (cyc n r x)))]=sv (drU n r u (x+1)):=by
     unfold drU;rw[hcut,Y0t,Y0w,Y3m,Zfs];unfold sv;simp
    rw[e10];refine⟨⟨x+1,l6,_,rfl,Z4 (s8.trans s9) Htx,by rw[ZZ n6t];exact s9 _ _ h8l,Z2,n6t,by omega⟩,?_⟩;show TV l6 _<TV lf H2;have hf9:(upd H9 tx (.lst (sv (drU n r u (x+1))))) l6=some (.lst (nv (Ys n r (x+1)))):=(by rw[ZZ n6t];exact s9 _ _ h8l);rw[ZaB hf9,ZaB hlf2,ZQ,ZQ,hleft,Y1e (by have:x∈cyc n r x:=Xz rr hx 0;simpa using this)];have:=Y0u (fun y=>decide (y∉cyc n r x)) rest;simp only[Y0f];omega
  ·rintro σ H Q Q' h ⟨v,e1,p',xs,e2,e3,i,j,f1,f2,b',g1,g2⟩;exact⟨v,e1,p',xs,e2,e3,i,j,f1,f2,b',g1,h _ _ g2⟩
end
def Zjh:Sp:=fun vs H Q _=>∃ (a:Addr) (n:Nat) (r u:List Nat) (j:Nat),vs=[.ref a,.str (wT j)]/\ZN H a r u/\Row n r/\Row n u/\n<=36/\1<=n/\j<4/\
 ∀ (H':Hp) (d:Addr) (zs:List (List Nat)),Z7 H H'->H d=none->H' d=some (.lst (sv zs))->Due n r u j zs->Q (.ref d) H'
theorem ZcN (b:Bd):dg (b.1:Int)++[120]++dg (b.2.1:Int)++[43]++Yk 44 (b.2.2.map fun x:Nat=>(x:Int))=XM b:=by
 unfold XM;rw[show Yk 120 [(b.1:Int),(b.2.1:Int)]=dg (b.1:Int)++120::dg (b.2.1:Int) from rfl];simp
section
variable {P:Program}{w:World}{K:Y00}{mg:Str->Option Value}{base:Heap}
noncomputable abbrev Zj5:List Str:=["_law_sheet","_law_word","_law_many","_law_told","_law_band","_law_numbers"]
theorem Vl:ZO Zj5 ["_law_sheet","_law_word"] (Z0 WK):=⟨rfl,rfl,rfl,by decide +kernel,rfl,by decide +kernel,by decide +kernel⟩
theorem ZiG:(["_law_shift"]:List Str).Nodup:=by decide +kernel
theorem ZfX:(["_law_number"]:List Str).Nodup:=by decide +kernel
set_option maxHeartbeats 2000000 in
theorem Zil {f fd' fb fu:Addr}{fd dd' db du:FuncData}(T:Bi mg)(Ts:mg "str"=none)(FD:Fn K mg "_law_drawing" W9 ["_law_sheet"] fd' dd')(GD:Z6 P w K mg base CX0 1 fd' dd' ["_law_sheet"] spLw)(FB:Fn K mg "bands" WX ["sheet"] fb db)(GB:Z6 P w K mg base CX0 9 fb db ["sheet"] Z87)(FU:Fn K mg "_law_turns" VI ["_law_sheet"] fu du)(GU:Z6 P w K mg base CX0 2 fu du ["_law_sheet"] spLu)(F:Fn K mg "_law_plain_due" WK ["_law_sheet","_law_word"] f fd):Z6 P w K mg base CX0 10 f fd ["_law_sheet","_law_word"] Zjh:=by
 refine F.F.ok Vl (fun vs H Q E h=>?_) (fun cdv A outer s H vs Q E hr h=>?_)
 ·obtain⟨a,n,r,u,j,rfl,_⟩:=h;rfl
 ·obtain⟨a,n,r,u,j,rfl,hsh,rr,ru,hn,h1n,hj,k⟩:=h;have hr1:ZR 1 _:=hr.mono (by decide);have hr2:ZR 2 _:=hr.mono (by decide);have hr9:ZR 9 _:=hr.mono (by decide);have one:1<=sizeLine:=by decide
  have four:4<=sizeLine:=by decide
  have big:1000000<=sizeLine:=by decide
  have rl:=WG rr ru;obtain⟨p,q,h1,h2,h3⟩:=id hsh;refine⟨_,(Z5 (ZP (i:=2) Vl.nd rfl (Or.inl rfl) (ZF Zk rfl T.len PySem.boot_len (Z9 (ZY ZA (pv 0) Z3 (fun _ _=>rfl)) Z8)))
   (Z5 (Zu (Zt Ze (pv 1) ZH (Zw _)) (Z1 (ZS (ZU GD hr1 rfl FD.m FD.F.kp FD.b .nil ZX (Z9 (pv 0) Z8)))) Zr)
   (Z5 (Zu (Zt Ze (pv 1) ZH (Zw _)) (Z5 (ZP (i:=3) Vl.nd rfl (Or.inl rfl) (Y8 Z8))
   (Z5 (YQ PassesOwn.never rfl (Y5 (ZU GB hr9 rfl FB.m FB.F.kp FB.b .nil ZX (Z9 (pv 0) Z8))) (ZE (i:=4) Vl.nd rfl (Or.inl rfl)) (Z1 (Y3 (Zg PySem.F.plainAttrs_list PySem.F.slot_list_append PySem.F.type_list_append YU (pv 3) (Z9 (ZJ YI (ZJ YI (ZJ YI (ZJ YI (Y7 Xb rfl Ts Xo (Z9 (ZY ZA (pv 4) Z3 (fun _ _=>rfl)) Z8)) ZH) (Y7 Xb rfl Ts Xo (Z9 (ZY ZA (pv 4) Z3 (fun _ _=>rfl)) Z8))) ZH) (Zg PySem.F.plainAttrs_str PySem.F.slot_str_join PySem.F.type_str_join Xj ZH (Z9 (Y6 (N:=Zj5) (names:=(Z0 WK).names) (N':=["_law_shift"]) (k:=1) (pull:=[]) (te:=tCB (fun xs H Q=>∃ i:Int,xs=[.int i]/\i.natAbs.log2<1920/\Q (.str (toString i)) H) (ZM (ZW 0) Zx)) rfl ⟨by rfl,by decide +kernel,by decide +kernel,by rfl,by decide +kernel,by decide +kernel⟩ rfl rfl (PI.or' (XQ (ZY ZA (pv 4) Z3 (fun _ _=>rfl))) (Y5 (ZY ZA (pv 4) Z3 (fun _ _=>rfl)))) (fun _ _ _ _ _ _=>ZE (i:=0) ZiG rfl (Or.inl rfl)) (fun _ _ _ _ _ _=>Y7 Xb rfl Ts Xo (Z9 (pv 0) Z8))) Z8))) Z8)))))
   (Z1 (ZS (pv 3))))) Zr)
   (Z5 (ZP (i:=5) Vl.nd rfl (Or.inl rfl) (ZU GU hr2 rfl FU.m FU.F.kp FU.b .nil ZX (Z9 (pv 0) Z8)))
   (Z5 (Zu (Zt Ze (pv 1) ZH (Zw _)) (Z1 (ZP (i:=5) Vl.nd rfl (Or.inl rfl) (Y8 (Z9 (ZF Zk rfl T.len PySem.boot_len (Z9 (pv 5) Z8)) (Z9 (ZJ Zb6 Z3 (pv 2)) (Z9 (pv 2) (Z9 (ZJ XZ (ZJ Xf (ZJ Wt Z3 (ZF Zk rfl T.len PySem.boot_len (Z9 (pv 5) Z8))) (pv 2)) Z3) Z8))))))) Zr)
   (Z1 (ZS (Y8 (Z9 (Zg PySem.F.plainAttrs_str PySem.F.slot_str_join PySem.F.type_str_join Xj ZH (Z9 (Y6 (N:=Zj5) (names:=(Z0 WK).names) (N':=["_law_number"]) (k:=1) (pull:=[]) (te:=tCB (fun xs H Q=>∃ i:Int,xs=[.int i]/\i.natAbs.log2<1920/\Q (.str (toString i)) H) (ZM (ZW 0) Zx)) rfl ⟨by rfl,by decide +kernel,by decide +kernel,by rfl,by decide +kernel,by decide +kernel⟩ rfl rfl (PI.or' (XQ (pv 5)) (Y5 (pv 5))) (fun _ _ _ _ _ _=>ZE (i:=0) ZfX rfl (Or.inl rfl)) (fun _ _ _ _ _ _=>Y7 Xb rfl Ts Xo (Z9 (pv 0) Z8))) Z8)) Z8))))))))),?_⟩
  refine⟨_,rfl,a,_,0,_,rfl,rfl,SqT.of h1,ZV (j:=0) rfl,p,_,rfl,.inr (SqT.of h2),?_⟩;rw[ZQ,rr.len];dsimp only [ZC]
  by_cases e2:j=2
  ·subst e2;refine⟨_,rfl,rfl,_,rfl,?_⟩;rw[show decide (V.str (wT 2)=V.str (Str.ofString "draw"))=true from veq _];refine Zo ⟨_,rfl,a,n,r,u,rfl,hsh,rr,ru,hn,fun H1 l s1 hl0 hl=>?_⟩;exact k H1 l _ s1 hl0 hl rfl
  refine⟨_,rfl,rfl,_,rfl,?_⟩;rw[show decide (V.str (wT j)=V.str (Str.ofString "draw"))=false from vne (by
   match j,hj with
   | 0,_=>decide +kernel
   | 1,_=>decide +kernel
   | 2,_=>exact absurd rfl e2
   | 3,_=>decide +kernel)]
  refine ZG ?_
  by_cases e3:j=3
  ·subst e3;refine⟨_,rfl,rfl,_,rfl,?_⟩;rw[show decide (V.str (wT 3)=V.str (Str.ofString "bands"))=true from veq _];refine Zo ⟨Y0y _,fun tl htl=>?_⟩;dsimp only [ZC];have s0:=Z4 (o:=.lst []) (Z7.refl H) htl;have e0:(upd H tl (.lst [])) tl=some (.lst []):=Z2;generalize upd H tl (.lst [])=H0 at s0 e0;refine⟨_,rfl,a,n,r,u,rfl,hsh.same s0,rr,ru,hn,fun H1 l1 as bs s1 hl0 hl1 hB hp hs=>?_⟩;have hbl:bs.length<=36:=by
    have e1:=hp.length_eq;have e2:(X0 n r u (XJ n (Zn r u))).length<=n:=by
     unfold X0;rw[Y05];exact Y1c (Y0u _ _) (Tp (n:=n) (w:=r) n)
    omega
   have hal:=hB.len;have nt1:l1≠tl:=fun z=>by rw[z,e0]at hl0;cases hl0
   refine⟨l1,rfl,⟨_,SqL.of hl1⟩,VW (K:=K) (a:=l1) (xs:=as.map V.ref) (fun i σ H2=>∃ o4:Option V,σ=[some (.ref a),some (.str (wT 3)),some (.int (n:Int)),some (.ref tl),o4,none]/\(∀ b o,b≠tl->H1 b=some o->H2 b=some o)/\H2 tl=some (.lst (sv ((bs.take i).map XM)))) ⟨none,rfl,fun _ _ _ h=>h,s1 _ _ e0⟩ (fun i σ H2 _ ⟨_,_,fr,_⟩=>SqL.of (fr _ _ nt1 hl1)) ?_ ?_⟩
   ·rintro i v σ H2 hv ⟨o4,rfl,fr,ht⟩;have hi:i<as.length:=(by have:=(Y07.mp hv).1;rwa [Y05]at this);have ha:as[i]?=some as[i]:=Y01 hi;obtain⟨bd,hbd,t,g1,g2⟩:=hB.get ha;have hg:(as.map V.ref)[i]?=some (.ref as[i]):=(by rw[Y0l,ha];rfl);rw[hg]at hv;cases hv;have ntp:∀ {b:Addr} {ys:List V},H1 b=some (.tup ys)->b≠tl:=fun z q=>by rw[q,s1 _ _ e0]at z;cases z
    have g1':=fr _ _ (ntp g1) g1;have g2':=fr _ _ (ntp g2) g2;have hmem:bd∈X0 n r u (XJ n (Zn r u)):=hp.mem_iff.mp (Y0o hbd);have hok:=Z5V rr hn hmem;obtain⟨q1,q2,q3,q4⟩:=id hok;have d1:(dg (bd.1:Int)).length<=1001:=Vy (by omega);have d2:(dg (bd.2.1:Int)).length<=1001:=Vy (by omega);have l2:=Z4D (c:=44) hok.sh;rw[Y05]at l2;have l3:bd.2.2.length*1002<=100*1002:=Nat.mul_le_mul_right _ q3;have lg:∀ m:Nat,m<=1000->((m:Int)).natAbs.log2<1920:=fun m hm=>Y2y (VD (by omega)) (by decide);refine⟨_,rfl,.inl ⟨rfl,_,SqL.of ht⟩,_,rfl,as[i],_,0,_,rfl,rfl,SqT.of g1',ZV (j:=0) rfl,_,rfl,lg _ (by omega),_,_,rfl,rfl,?_,?_⟩
    ·rw[<-Yl,TM,ZD,ZD];show _+1<=_;omega
    refine⟨_,rfl,as[i],_,1,_,rfl,rfl,SqT.of g1',ZV (j:=1) rfl,_,rfl,lg _ (by omega),_,_,rfl,rfl,?_,?_⟩
    ·rw[<-Yl,<-Yl,TM,Zh,ZD,ZD,Y09];show _+1+_<=_;omega
    refine⟨_,_,rfl,rfl,?_,?_⟩
    ·rw[<-Yl,<-Yl,TM,UC,Zh,Zh,ZD,ZD,Y09,Y09];show _+1+_+1<=_;omega
    rw[<-Yl,<-Yl,TM,UC,Zh,Zh,Zh];refine⟨rfl,?_⟩;dsimp only [ZM,Zx];refine Z7T (p:=t) (ms:=bd.2.2.map fun x:Nat=>(x:Int)) (fun R hR=>⟨_,rfl,as[i],_,2,_,rfl,rfl,SqT.of g1',ZV (j:=2) rfl,hR⟩) (.inl (SqT.of (by rw[<-Ud];exact g2'))) hok.sh (by rw[Y05];omega) fun H3 d3 s3 h3'=>?_;rw[Z8N];refine Zcc (B:=1001) h3' (by rw[Y05,Y05];omega) (fun z hz=>?_) (by decide) ?_
    ·obtain⟨m,hm,rfl⟩:=Y0d.mp hz;exact Vy (hok.sh m hm)
    have jt:YK 44 ((bd.2.2.map fun x:Nat=>(x:Int)).map dg)=Yk 44 (bd.2.2.map fun x:Nat=>(x:Int)):=rfl;rw[jt];refine⟨_,_,rfl,rfl,?_,?_⟩
    ·rw[ZD,ZD,Y09,Y09,Y09];show _+1+_+1+_<=_;omega
    rw[Zh,ZcN];have ht3:=s3 _ _ ht;refine⟨tl,_,_,rfl,rfl,ht3,by rw[XB,Y05,Y1m];exact Zj (by omega),?_⟩;have e9:sv ((bs.take i).map XM)++[V.str (txt (XM bd))]=sv ((bs.take (i+1)).map XM):=by
     rw[List.take_succ,hbd];unfold sv;simp
    rw[e9];exact⟨_,rfl,fun b o hb hh=>by rw[ZZ hb];exact s3 _ _ (fr b o hb hh),Z2⟩
   ·rintro σ H2 ⟨o4,rfl,fr,ht⟩;rw[Y05,hal,Y2a]at ht;refine⟨_,rfl,k H2 tl _ (fun b o hb=>fr b o (fun z=>by rw[z,htl]at hb;cases hb) ((s0.trans s1) _ _ hb)) htl ht ⟨bs,hp,hs,rfl⟩⟩
  refine⟨_,rfl,rfl,_,rfl,?_⟩;rw[show decide (V.str (wT j)=V.str (Str.ofString "bands"))=false from vne (by
   match j,hj with
   | 0,_=>decide +kernel
   | 1,_=>decide +kernel
   | 2,_=>exact absurd rfl e2
   | 3,_=>exact absurd rfl e3)]
  refine ZG ?_;refine⟨_,rfl,a,n,r,u,rfl,hsh,rr,ru,hn,fun H1 l1 S s1 hl0 hl1 hp hs=>?_⟩;dsimp only [ZC];have hlen:=hp.length_eq;rw[Y05]at hlen;have hRl:=V6 n (Zn r u);have fin:∀ (H2:Hp) (l2:Addr) (ms:List Int) (D:YZ),Z7 H H2->H2 l2=some (.lst (ms.map V.int))->(∀ x∈ms,x.natAbs<=1000)->ms.length<=1000->(∀ (H':Hp) (d:Addr),Z7 H H'->H d=none->H' d=some (.lst (sv [Yk 32 ms]))->D.rt (.ref d) H')->
    Xs (ZjJ (ZM (tBM K "str" (WV K) (tC (.str (Str.ofString " "))) (ZM (YO (fun σ H R=>WS K (ZW 5) σ H R\/Yr K (ZW 5) σ H R) 1 [] (ZC 0) (tCB (fun xs H Q=>∃ i:Int,xs=[.int i]/\i.natAbs.log2<1920/\Q (.str (toString i)) H) (ZM (ZW 0) Zx))) Zx)) Zx)) D [some (.ref a),some (.str (wT j)),some (.int (n:Int)),none,none,some (.ref l2)] H2:=by
   intro H2 l2 ms D s2 h2' hm hn2 kk;refine⟨rfl,?_⟩;dsimp only [ZM,Zx];refine Z7T (fun R hR=>⟨_,rfl,hR⟩) (.inr (SqL.of h2')) hm hn2 fun H3 d3 s3 h3'=>?_;rw[YD];refine Zcc (B:=1001) h3' (by rw[Y05];exact hn2) (fun z hz=>?_) (by decide) ?_
   ·obtain⟨m,hm',rfl⟩:=Y0d.mp hz;exact Vy (hm m hm')
   refine⟨one,fun d hd=>?_⟩;have sA:=s2.trans s3;exact kk _ d (Z4 sA (sA.free hd)) (sA.free hd) Z2
  by_cases e1:j=1
  ·subst e1;refine⟨_,rfl,rfl,_,rfl,?_⟩;rw[show decide (V.str (wT 1)=V.str (Str.ofString "counts"))=true from veq _];refine Zo ?_;have hpt:pts n r u=S.length:=(by unfold pts;omega);refine⟨_,rfl,l1,_,rfl,.inl (SqL.of hl1),_,rfl,_,_,rfl,rfl,.inl ⟨by decide,by decide⟩,_,rfl,_,rfl,l1,_,rfl,.inl (SqL.of hl1),_,_,rfl,rfl,_,rfl,_,_,rfl,rfl,_,_,rfl,rfl,⟨by decide,by decide⟩,four,fun l2 hl2=>?_⟩;dsimp only [ZC];rw[ZQ];refine fin _ l2 [((S.length:Nat):Int),2*(n:Int),(n:Int),(2-((S.length:Nat):Int)+(n:Int))/2] _ (Z4 s1 (s1.free hl2)) Z2 (fun x hx=>?_) (by show 4<=1000;decide) fun H' d s' hd0 hd=>?_
   ·simp only[Y0k,Y3o,or_false]at hx;rcases hx with rfl|rfl|rfl|rfl<;>omega
   refine k H' d _ s' hd0 hd ?_;show [Yk 32 _]=[Yk 32 _];rw[hpt,show (2-((S.length:Nat):Int)+2*(n:Int)-(n:Int))/2=(2-((S.length:Nat):Int)+(n:Int))/2 by omega]
  ·have e0:j=0:=(by omega);subst e0;refine⟨_,rfl,rfl,_,rfl,?_⟩;rw[show decide (V.str (wT 0)=V.str (Str.ofString "counts"))=false from vne (by decide +kernel)];refine ZG ?_;refine fin _ l1 (S.map fun x:Nat=>(x:Int)) _ s1 (by rw[<-Ud];exact hl1) (fun x hx=>Z5H rl hn x ((hp.map _).mem_iff.mp hx)) (by rw[Y05];omega) fun H' d s' hd0 hd=>?_;exact k H' d _ s' hd0 hd ⟨S,hp,hs,rfl⟩
end
theorem Zfj {K:Y00}{H:Hp}:∀ zs:List (List Nat),X4 K H (sv zs) (zs.map fun z=>PyData.str (txt z))
 | []=>.nil
 | z::zs=>.cons (.str _) (Zfj zs)
theorem Zes {zs:List (List Nat)}(h:∀ z∈zs,∀ c∈z,c<0x110000):(PyData.list (zs.map fun z=>PyData.str (txt z))).canLay0=true:=by
 show PyData.canLayAll0 _=true
 induction zs with
 | nil=>rfl
 | cons z zs ih=>
  show ((PyData.str (txt z)).canLay0&&PyData.canLayAll0 (zs.map fun z=>PyData.str (txt z)))=true;rw[ih fun y hy=>h y (by simp[hy])];have:(PyData.str (txt z)).canLay0=true:=by
   show ((txt z).cps.all fun c=>decide (c<0x110000))=true;rw[Array.all_eq_true_iff_forall_mem];intro c hc;exact decide_eq_true (h z (by simp) c (by simpa [txt] using hc))
  rw[this];rfl
theorem ZfW (zs:List (List Nat)):(PyData.list (zs.map fun z=>PyData.str (txt z))).depth<=64:=by
 have:∀ zs:List (List Nat),PyData.depthAll (zs.map fun z=>PyData.str (txt z))<=1:=fun zs=>by
  induction zs with
  | nil=>decide
  | cons z zs ih=>exact Nat.max_le.mpr ⟨by show 0<=1;decide,ih⟩
 exact Y1c (Nat.succ_le_succ (this zs)) (by decide)
theorem Zgg (zs:List (List Nat)):PyData.eqv (.list (zs.map fun z=>PyData.str (txt z))) (.list (zs.map fun z=>PyData.str (txt z)))=true:=by
 show PyData.eqvAll _ _=true
 induction zs with
 | nil=>rfl
 | cons z zs ih=>
  show (PyData.eqv (.str (txt z)) (.str (txt z))&&PyData.eqvAll _ _)=true;rw[ih];have:PyData.eqv (.str (txt z)) (.str (txt z))=true:=by show (txt z==txt z)=true;simp
  rw[this];rfl
theorem Zd4 (K:Y00):Y23 K (.type "str") (.type "str")=some true:=by kernel_rfl
noncomputable abbrev teI4 (K:Y00):TE:=tCB (fun xs H Q=>∃ x c t b,xs=[x,.ty c]/\YB K H x t/\Y23 K t (.type c)=some b/\Q (.bl b) H) (ZM (ZW 0) (ZM (tC (.ty "str")) Zx))
theorem Zfm {K:Y00}{Hc:Hp}{p:Addr}{zs:List (List Nat)}{Q:VK}{σ:St}(hj:σ[0]?=some (some (.ref p)))(hp:Hc p=some (.lst (sv zs)))(hn:zs.length<=1000)
  (k:∀ (H':Hp) (d:Addr),Z7 Hc H'->H' d=some (.lst ((zs.map fun _=>true).map V.bl))->Q (.ref d) H'):YO (Yr K (ZW 0)) 1 [] (ZC 0) (teI4 K) σ Hc Q:=by
 refine⟨_,hj,p,rfl,⟨_,SqL.of hp⟩,fun d hd=>?_⟩;refine YR (Q:=fun d H'=>Q (.ref d) H') zs.length ((zs.map fun _=>true).map V.bl) (by simp) (fun i σ H3=>∃ o,σ=[o]/\Z7 Hc H3) ⟨none,rfl,Z4 (Z7.refl _) hd⟩ ?_ ?_
 ·rintro i σ H3 hi ⟨o,rfl,s3⟩ hd3;have hp3:=SqL.of (K:=K) (s3 _ _ hp);have hg:(sv zs)[i]?=some (.str (txt zs[i])):=by simp[sv,hi]
  refine⟨⟨_,_,hp3,hg⟩,fun y H4 ⟨e,hy⟩=>?_⟩;subst e;have hy:=hy _ hp3;rw[hg]at hy;cases hy;exact⟨_,rfl,_,_,_,_,rfl,.str _,Zd4 K,YN hi hn hd3 (by simp[hi]) ⟨_,rfl,Z4 s3 hd⟩⟩
 ·rintro σ H3 ⟨o,rfl,s3⟩ hd3;exact⟨⟨_,SqL.of (s3 _ _ hp),by simp[sv]⟩,k H3 d s3 hd3⟩
def Sd:Sp:=fun vs H Q _=>∃ (f d:Addr) (zs:List (List Nat)),vs=[.ref f,.ref d]/\H f=some (.lst (sv zs))/\H d=some (.lst (sv zs))/\zs.length<=900/\(∀ z∈zs,∀ c∈z,c<0x110000)/\∀ H':Hp,(∀ b o,b≠f->H b=some o->H' b=some o)->Q (.bl true) H'
theorem Z7y {c x:Nat}:∀ {zs:List (List Nat)},x∈YK c zs->x=c\/∃ z∈zs,x∈z
 | [],h=>by cases h
 | [z],h=>.inr ⟨z,by simp,h⟩
 | z::y::zs,h=>by
  have h:x∈z++c::YK c (y::zs):=h;rcases Y1d.mp h with h|h
  ·exact .inr ⟨z,by simp,h⟩
  ·rcases Y0k.mp h with h|h
   ·exact .inl h
   ·rcases Z7y h with h|⟨z',h1,h2⟩
    ·exact .inl h
    ·exact .inr ⟨z',Y0r _ h1,h2⟩
theorem Zgo {m:Int}(h:m.natAbs<=999):∀ c∈dg m,c<200:=by
 intro c hc;have N:=ZbE h;have hf:=N.fig;unfold fg at hf
 by_cases e:(dg m).head?=some 45
 ·rw[if_pos e]at hf;cases hd:dg m with
  | nil=>rw[hd]at hc;cases hc
  | cons x l=>
   rw[hd]at hc e hf;rcases Y0k.mp hc with rfl|hc
   ·have:c=45:=by simpa using e
    omega
   ·have:=hf c (by simpa using hc);omega
 ·rw[if_neg e]at hf;have:=hf c hc;omega
theorem Tw {c:Nat}{ms:List Int}(hc:c<200)(h:∀ m∈ms,m.natAbs<=999):∀ x∈Yk c ms,x<200:=by
 intro x hx;rcases Z7y hx with rfl|⟨z,hz,hx⟩
 ·exact hc
 ·obtain⟨m,hm,rfl⟩:=Y0d.mp hz;exact Zgo (h m hm) x hx
theorem Zel {k:Nat}(h:k<36):sg k<200:=by unfold sg;split<;>omega
theorem Z9h {r:List Nat}(h:∀ x∈r,x<36):∀ c∈ZL r,c<200:=by
 intro c hc;obtain⟨k,hk,rfl⟩:=Y0d.mp hc;exact Zel (h k hk)
theorem Za6 {b:Nat}{xs:List Nat}(hb:b<200)(h:∀ x∈xs,x<36):∀ c∈btw b xs,c<200:=by
 intro c hc;rcases Y0k.mp hc with rfl|hc
 ·exact hb
 ·obtain⟨x,hx,hc⟩:=List.mem_flatMap.mp hc;rcases Y0k.mp hc with rfl|hc
  ·exact Zel (h x hx)
  ·rw[Y0c.mp hc];exact hb
theorem ZbX {b:Bd}(h:Wc b):∀ c∈XM b,c<200:=by
 intro c hc;unfold XM at hc;obtain⟨h1,h2,_,h4⟩:=h;rcases Y1d.mp hc with hc|hc
 ·rcases Y1d.mp hc with hc|hc
  ·refine Tw (by decide) (fun m hm=>?_) c hc;simp only[Y0k,Y3o,or_false]at hm;rcases hm with rfl|rfl<;>omega
  ·rw[Y0c.mp hc];decide
 ·refine Tw (by decide) (fun m hm=>?_) c hc;obtain⟨y,hy,rfl⟩:=Y0d.mp hm;have:=h4 y hy;omega
theorem Zfr {n j:Nat}{r u:List Nat}{zs:List (List Nat)}(rr:Row n r)(ru:Row n u)(hn:n<=36)(h:Due n r u j zs):zs.length<=900/\∀ z∈zs,∀ c∈z,c<0x110000:=by
 have up:∀ {z:List Nat},(∀ c∈z,c<200)->∀ c∈z,c<0x110000:=fun h c hc=>Y2y (h c hc) (by decide);have rl:=WG rr ru;have hRl:=V6 n (Zn r u)
 match j,h with
 | 0,⟨S,p,s,e⟩=>
  subst e;refine⟨by simp,fun z hz=>?_⟩;rw[Y0c.mp hz];refine up (Tw (by decide) fun m hm=>?_);obtain⟨y,hy,rfl⟩:=Y0d.mp hm;obtain⟨M,hM,rfl⟩:=Y0d.mp (p.mem_iff.mp hy);obtain⟨x,hx,_,rfl⟩:=WI hM;have h1:=(YT rl hx).len rl hx;omega
 | 1,h=>
  have e:zs=[_]:=h;subst e;refine⟨by simp,fun z hz=>?_⟩;rw[Y0c.mp hz];have hp:pts n r u<=n:=by unfold pts;exact hRl
  refine up (Tw (by decide) fun m hm=>?_);simp only[Y0k,Y3o,or_false]at hm;rcases hm with rfl|rfl|rfl|rfl<;>omega
 | 2,h=>
  have e:zs=drM u (Zp n r):=h;subst e;have h2:=V6 n r;refine⟨by rw[Z8f];omega,fun z hz=>?_⟩;obtain⟨M,hM,hz⟩:=List.mem_flatMap.mp hz;obtain⟨x,hx,_,rfl⟩:=WI hM;rcases Y0k.mp hz with rfl|hz
  ·refine up (Za6 (by decide) fun y hy=>?_);obtain⟨v,hv,rfl⟩:=Y0d.mp hy;have:=ru.nlt (XO rr hx hv);omega
  ·rw[Y0c.mp hz];refine up (Za6 (by decide) fun y hy=>?_);have:=XO rr hx hy;omega
 | _+3,⟨bs,p,s,e⟩=>
  subst e;have e1:=p.length_eq;have e2:(X0 n r u (XJ n (Zn r u))).length<=n:=by
   unfold X0;rw[Y05];exact Y1c (Y0u _ _) (Tp (n:=n) (w:=r) n)
  refine⟨by rw[Y05];omega,fun z hz=>?_⟩;obtain⟨b,hb,rfl⟩:=Y0d.mp hz;exact up (ZbX (Z5V rr hn (p.mem_iff.mp hb)))
theorem Zax {n:Nat}{x:List Nat×List Nat}(s:ZK n x.1 x.2):∀ z∈[shT x],∀ c∈z,c<0x110000:=by
 intro z hz c hc;rw[Y0c.mp hz]at hc;have h1:=(ZK.lt36 s).1;have h2:=(ZK.lt36 s).2;have:c<200:=by
  unfold shT at hc;rcases Y1d.mp hc with hc|hc
  ·rcases Y1d.mp hc with hc|hc
   ·exact Z9h h1 c hc
   ·rw[Y0c.mp hc];decide
  ·exact Z9h h2 c hc
 exact Y2y this (by decide)
section
variable {P:Program}{w:World}{K:Y00}{mg:Str->Option Value}{base:Heap}
noncomputable abbrev n_ai:List Str:=["_law_found","_law_due"]
theorem ZiZ:ZO n_ai ["_law_found","_law_due"] (Z0 WJ):=⟨rfl,rfl,rfl,by decide +kernel,rfl,by decide +kernel,by decide +kernel⟩
theorem ZiE:(["_law_one"]:List Str).Nodup:=by decide +kernel
theorem Zjt {f:Addr}{fd:FuncData}(T:Bi mg)(Ts:mg "str"=none)(F:Fn K mg "_law_answer_is" WJ ["_law_found","_law_due"] f fd):Z6 P w K mg base CX0 1 f fd ["_law_found","_law_due"] Sd:=by
 refine F.F.ok ZiZ (fun vs H Q E h=>?_) (fun cdv A outer s H vs Q E hr h=>?_)
 ·obtain⟨f,d,zs,rfl,_⟩:=h;rfl
 ·obtain⟨f,d,zs,rfl,hf,hd,hn,hc,k⟩:=h;refine⟨_,(Z5 (Zu (PW.pt (Vp (Yt (YW (ZF Xa rfl T.isin W8 (Z9 (pv 0) (Z9 (WZ (v:=.ty "list") rfl T.list To rfl) Z8))))) (Vp (Zt Zek (pv 0) (pv 1) (Zw _)) (SM (Yt (YW (ZF (U8 rfl) rfl T.all US (Z9 (Y6 (N:=n_ai) (names:=(Z0 WJ).names) (N':=["_law_one"]) (k:=1) (pull:=[]) (te:=teI4 K) rfl ⟨by rfl,by decide +kernel,by decide +kernel,by rfl,by decide +kernel,by decide +kernel⟩ rfl rfl (Y5 (pv 0)) (fun _ _ _ _ _ _=>ZE (i:=0) ZiE rfl (Or.inl rfl)) (fun _ _ _ _ _ _=>ZF Xa rfl T.isin W8 (Z9 (pv 0) (Z9 (WZ (v:=.ty "str") rfl Ts Xo rfl) Z8)))) Z8)))))))) (Z1 (ZS Yy)) Zr)
   (Z5 (Y3 (Zg PySem.F.plainAttrs_list PySem.F.slot_list_append PySem.F.type_list_append YU (pv 0) (Z9 ZH Z8)))
   (Z1 (ZS Yy)))),?_⟩
  refine⟨_,rfl,_,_,_,_,rfl,YB.lst hf,Z6u K,_,rfl,ZG ?_⟩;refine⟨_,rfl,_,rfl,.list (zs.map fun z=>.str (txt z)),.list (zs.map fun z=>.str (txt z)),.lst (SqL.of hf) (Zfj _),.lst (SqL.of hd) (Zfj _),Zes hc,Zes hc,Ze5 hr (ZfW _),_,rfl,?_⟩;show if (!PyData.eqv (.list (zs.map fun z=>.str (txt z))) (.list (zs.map fun z=>.str (txt z))))=true then _ else _
  rw[Zgg];refine ZG ?_;dsimp only [Wf,Yh,TK,TF,tB,tCB,ZM];refine Zfm rfl hf (by omega) fun H1 e s1 he=>?_;refine⟨e,_,rfl,SqL.of he,_,rfl,?_⟩;have hall:((zs.map fun _=>true).all id)=true:=by rw[Y2d];intro x hx;obtain⟨_,_,rfl⟩:=Y0d.mp hx;rfl
  rw[hall];refine ZG ?_;refine⟨_,rfl,.inl ⟨rfl,_,SqL.of (s1 _ _ hf)⟩,f,_,_,rfl,rfl,s1 _ _ hf,by rw[XB];exact Zj (by omega),?_⟩;exact k _ fun b o hb hh=>by rw[ZZ hb];exact s1 _ _ hh
end
def spRh (C:Addr):Sp:=fun vs H Q _=>∃ (d dx e ls c:Addr) (as bs:List Addr) (xs:List Y0) (x:Y0) (cc:Int),vs=[.ref d,.ref ls,.int cc]/\JS C H d dx e ls c as bs xs x/\xs.length<=100/\
 ∀ (H':Hp) (ls' c':Addr) (as' bs':List Addr) (xs':List Y0) (x':Y0),Frm d e H H'->JS C H' d dx e ls' c' as' bs' xs' x'->xs'.length<=xs.length+1->Q (.ref ls') H'
theorem ZcP (xs:List V)(y:V):Yi (xs++[y]) none (some (-1))=xs:=by
 unfold Yi;have h1:HT.sIx (xs++[y]).length 0 none=0:=rfl;have h2:HT.sIx (xs++[y]).length (xs++[y]).length (some (-1))=xs.length:=by
  unfold HT.sIx;simp;omega
 rw[h1,h2];simp
theorem Ze2 {C:Addr}{H H1 H2:Hp}{d dx e l:Addr}{c1:Addr}{as1:List Addr}(hl:H l=none)(f1:Frm d e H H1)(d1:Dsk C H1 d dx c1 e as1)(hd:∃ o,H d=some o)(he:∃ o,H e=some o)(k:∀ b o,b≠l->H1 b=some o->H2 b=some o):Frm d e H H2/\Dsk C H2 d dx c1 e as1:=by
 obtain⟨od,hd⟩:=hd;obtain⟨oe,he⟩:=he;have n1:d≠l:=fun z=>by rw[z,hl]at hd;cases hd
 have n2:e≠l:=fun z=>by rw[z,hl]at he;cases he
 exact⟨fun b o m1 m2 z=>k b o (fun q=>by rw[q,hl]at z;cases z) (f1 b o m1 m2 z),k _ _ n1 d1.at_,k _ _ n2 d1.lst⟩
section
variable {P:Program}{w:World}{K:Y00}{mg:Str->Option Value}{base:Heap}
noncomputable abbrev n_rh:List Str:=["_law_desk","_law_states","_law_cell","_law_row","_law_sheet"]
theorem Zfq:ZO n_rh ["_law_desk","_law_states","_law_cell"] (Z0 U1):=⟨rfl,rfl,rfl,by decide +kernel,rfl,by decide +kernel,by decide +kernel⟩
set_option maxHeartbeats 2000000 in
theorem Zj6 {f fs fa fw fn fc C CN:Addr}{fd ds da dw dn dc:FuncData}{kv:List (Key×Value)}(TB:Bi mg)(hkv:Xu kv K)(T:KTx K C)(FSa:MFn K C "say" "Desk.say" Vi ["self","row"] fs ds)(GSa:Z6 P w K mg base (CX1 P w) 11 fs ds ["self","row"] (T6 kv K C CN))(FA:Fn K mg "_law_answer_is" WJ ["_law_found","_law_due"] fa da)(GA:Z6 P w K mg base CX0 1 fa da ["_law_found","_law_due"] Sd)(FW:Fn K mg "_law_shown" Xl ["_law_sheet"] fw dw)(GW:Z6 P w K mg base CX0 1 fw dw ["_law_sheet"] (ZjA K))(FN:Fn K mg "_law_nothing_done" U7 ["_law_desk"] fn dn)(GN:Z6 P w K mg base CX0 12 fn dn ["_law_desk"] (spNd C))(FC:Fn K mg "_law_changed" UX ["_law_sheet","_law_cell"] fc dc)(GC:Z6 P w K mg base CX0 3 fc dc ["_law_sheet","_law_cell"] (spLc kv K))(F:Fn K mg "_law_row_holds" U1 ["_law_desk","_law_states","_law_cell"] f fd):Z6 P w K mg base CX0 13 f fd ["_law_desk","_law_states","_law_cell"] (spRh C):=by
 refine F.F.ok Zfq (fun vs H Q E h=>?_) (fun cdv A outer s H vs Q E hr h=>?_)
 ·obtain⟨d,dx,e,ls,c,as,bs,xs,x,cc,rfl,_⟩:=h;rfl
 ·obtain⟨d,dx,e,ls,c,as,bs,xs,x,cc,rfl,J,hx,k⟩:=h;have hr1:ZR 1 _:=hr.mono (by decide);have hr3:ZR 3 _:=hr.mono (by decide);have hr11:ZR 11 _:=hr.mono (by decide);have hr12:ZR 12 _:=hr.mono (by decide);have one:1<=sizeLine:=by decide
  have big:1000<=sizeLine:=by decide
  obtain⟨n,hS⟩:=J.sh;have l1:=J.ea.len;have l2:=J.ss.len;rw[Y09,List.length_singleton]at l2;have oD:∃ o,H d=some o:=⟨_,J.dk.at_⟩;have oE:∃ o,H e=some o:=⟨_,J.dk.lst⟩;have nld:ls≠d:=fun z=>by have:=J.st;rw[z,J.dk.at_]at this;cases this
  obtain⟨bs1,b2,eb,hb1,hb2,_⟩:=J.ss.unsnoc;have no1:YA c e=YA c e:=rfl;refine⟨_,(Z5 (Zu (PW.pt (ZdQ (Zt Vm (ZJ YF (pv 2) Z3) Z3 (Zw _)) (Za2 (Zt Ze (ZF Zk rfl TB.len PySem.boot_len (Z9 (pv 1) Z8)) Z3 (Zw _))))) (Z1 (ZS (Tf (YW (ZU GN hr12 rfl FN.m FN.F.kp FN.b .nil ZX (Z9 (pv 0) Z8))) (pv 1) SH))) Zr)
   (Z5 (Zu (Zt Vm (ZJ YF (pv 2) Z3) Z3 (Zw _)) (Z1 (ZS (Tf (YW (ZU GA hr1 rfl FA.m FA.F.kp FA.b .nil ZX (Z9 (Xm (pv 0) T.cl FSa.m GSa hr11 FSa.b .nil SF (Z9 ZH Z8)) (Z9 (Y8 (Z9 (ZU GW hr1 rfl FW.m FW.F.kp FW.b .nil ZX (Z9 (ZY Zs (pv 1) (Ya Yc Z3) (fun _ _=>rfl)) Z8)) Z8)) Z8)))) (UM Z8i (pv 1) Uq (Ux (Ya Yc Z3))) SH))) Zr)
   (Z5 (Za5 (ZU GC hr3 rfl FC.m FC.F.kp FC.b .nil ZX (Z9 (ZY Zs (pv 1) (Ya Yc Z3) (fun _ _=>rfl)) (Z9 (pv 2) Z8))) (SO rfl (YG (ZE (i:=3) Zfq.nd rfl (Or.inl rfl)) (YG (ZE (i:=4) Zfq.nd rfl (Or.inl rfl)) Xn))))
   (Z1 (ZS (Tf (YW (ZU GA hr1 rfl FA.m FA.F.kp FA.b .nil ZX (Z9 (Xm (pv 0) T.cl FSa.m GSa hr11 FSa.b .nil SF (Z9 (pv 3) Z8)) (Z9 (Y8 (Z9 (ZU GW hr1 rfl FW.m FW.F.kp FW.b .nil ZX (Z9 (pv 4) Z8)) Z8)) Z8)))) (ZJ Ze0 (pv 1) (Y8 (Z9 (pv 4) Z8))) SH)))))),?_⟩
  refine⟨_,rfl,_,_,rfl,rfl,(by show (0:Int)<10;decide),_,_,rfl,rfl,_,rfl,?_⟩;refine Yv (fun hgt=>?_) (fun hgt=>?_)
  ·refine⟨_,rfl,ls,_,rfl,.inl (SqL.of J.st),rfl,_,rfl,?_⟩;rw[Y05,l2]
   by_cases e0:xs=[]
   ·subst e0;rw[show decide (V.int (((([]:List Y0).length+1:Nat)):Int)=V.int 1)=true from decide_eq_true rfl];refine Zo ?_;have ea:as=[]:=Y1p.mp l1;refine⟨_,rfl,d,dx,c,e,n,x.1,x.2,rfl,by rw[<-ea];exact J.dk,J.cu,hS,fun H1 s1=>?_⟩;refine⟨_,rfl,Zo ?_⟩;exact⟨_,rfl,k H1 ls c as bs [] x (Frm.of s1) (J.same s1) (by simp)⟩
   ·rw[decide_eq_false (fun z=>e0 (Y1p.mp (by have:=V.int.inj z;omega)))];refine ZG ?_;refine⟨_,rfl,_,_,rfl,rfl,(by show (0:Int)<10;decide),_,_,rfl,rfl,_,rfl,?_⟩;rw[hgt];refine Zo ?_;obtain⟨xs0,y,rfl⟩:∃ xs0 y,xs=xs0++[y]:=⟨xs.dropLast,xs.getLast e0,(Y2t e0).symm⟩;obtain⟨as0,a0,eas,ha1,ha2,ny,hSy⟩:=J.ea.unsnoc;obtain⟨bs0,b1,eb1,hb3,hb4,_⟩:=hb1.unsnoc;refine⟨_,rfl,d,dx,_,rfl,J.dk.at_,W0 (by decide +kernel) (by decide +kernel),?_⟩;refine⟨d,dx,c,e,as,n,x.1,x.2,cp "undo",_,by rw[Yb];rfl,J.dk,by omega,J.cu,hS,Z92 hkv,.inr (.inl ⟨rfl,fun z=>?_,fun as' c' z=>?_⟩)⟩
    ·rw[eas]at z;simp at z
    have hz:as0=as'/\a0=c':=by
     have z2:as0++[a0]=as'++[c']:=(by rw[<-eas];exact z);exact⟨List.append_inj_left' z2 rfl,by have:=List.append_inj_right' z2 rfl;simpa using this⟩
    obtain⟨rfl,rfl⟩:=hz;refine⟨ny,y.1,y.2,ha2,hSy,fun H1 l f1 d1 hl0 hl=>?_⟩;have hls1:=f1 _ _ nld J.ne J.st;refine⟨_,rfl,_,rfl,ls,_,_,.ref b1,rfl,rfl,SqL.of hls1,?_,?_⟩
    ·rw[eb,eb1,Y0t,Y0t];exact ZfA _ _ _
    refine⟨b1,ny,y.1,y.2,rfl,f1.sh J.dk hb4,hSy,fun H2 s2=>?_⟩;refine⟨one,fun d2 hd2=>?_⟩;have hl2:=s2 _ _ hl;have s3:=Z4 (o:=.lst [V.str (txt (ZL y.1++[32]++ZL y.2))]) (Z7.refl H2) hd2;refine⟨l,d2,[shT y],rfl,s3 _ _ hl2,Z2,by simp,Zax hSy,fun H4 k4=>?_⟩;have k5:∀ b o,b≠l->H1 b=some o->H4 b=some o:=fun b o hb z=>k4 b o hb (s3 _ _ (s2 _ _ z));obtain⟨f4,d4⟩:=Ze2 hl0 f1 d1 oD oE k5;refine⟨_,rfl,Zo ?_⟩;have hls4:=f4 _ _ nld J.ne J.st;refine⟨_,rfl,_,rfl,_,rfl,ls,_,rfl,SqL.of hls4,fun ls' hls'=>?_⟩;have ec:Yi (bs.map V.ref) none (some (-1))=(bs0++[b1]).map V.ref:=by
     rw[eb,Y0t,eb1];exact ZcP _ _
    rw[ec];have s6:=Z4 (o:=.lst ((bs0++[b1]).map V.ref)) (Z7.refl H4) hls';have f6:=f4.trans (Frm.of s6);have d6:=d4.same s6;refine k _ ls' a0 as0 (bs0++[b1]) xs0 y f6 ⟨d6,ha1.mono fun z=>f6.sh J.dk z,f6.sh J.dk ha2,⟨ny,hSy⟩,Z2,(hb3.mono fun z=>f6.sh J.dk z).snoc (f6.sh J.dk hb4) ⟨ny,hSy⟩,fun z=>?_⟩ (by rw[Y09];omega);rw[z,d4.lst]at hls';cases hls'
  ·refine ZG ?_;refine⟨_,rfl,_,_,rfl,rfl,(by show (0:Int)<10;decide),_,_,rfl,rfl,_,rfl,?_⟩;rw[Bool.not_eq_true]at hgt;rw[hgt];refine ZG ?_;refine⟨_,rfl,_,rfl,ls,_,_,.ref b2,rfl,rfl,SqL.of J.st,by rw[eb,Y0t];exact Z5Z _ _,_,rfl,?_⟩;refine⟨b2,cc,n,x.1,x.2,rfl,hb2,hS,fun H1 t b n' kd m r' u' z asked s1 ht hR hC h4 hb=>?_⟩;refine⟨t,_,rfl,SqT.of ht,rfl,_,_,rfl,_,_,rfl,rfl,?_⟩;have J1:=J.same s1;have oD1:∃ o,H1 d=some o:=⟨_,J1.dk.at_⟩;have oE1:∃ o,H1 e=some o:=⟨_,J1.dk.lst⟩;obtain⟨k3,hS3⟩:=Z73 (m:=m) hS h4;refine⟨_,rfl,d,dx,_,rfl,J1.dk.at_,W0 (by decide +kernel) (by decide +kernel),_,rfl,?_⟩;refine⟨d,dx,c,e,as,n,x.1,x.2,z,asked,rfl,J1.dk,by omega,J1.cu,hS,hR,.inl ⟨n',kd,m,r',u',hC,h4,fun H2 b3 l f2 d2 hb3 hl0 hl=>?_⟩⟩;generalize hy:chg n kd m (x.1,x.2) (r',u')=y at *;have hbs:=f2.sh J1.dk hb;refine⟨_,rfl,b,k3,y.1,y.2,rfl,hbs,hS3,fun H3 s3=>?_⟩;refine⟨one,fun d3 hd3=>?_⟩;have s4:=Z4 (o:=.lst [V.str (txt (ZL y.1++[32]++ZL y.2))]) (Z7.refl H3) hd3;refine⟨l,d3,[shT y],rfl,s4 _ _ (s3 _ _ hl),Z2,by simp,Zax hS3,fun H5 k5=>?_⟩;have k6:∀ b o,b≠l->H2 b=some o->H5 b=some o:=fun b o hb z=>k5 b o hb (s4 _ _ (s3 _ _ z));obtain⟨f5,d5⟩:=Ze2 hl0 f2 d2 oD1 oE1 k6;refine⟨_,rfl,Zo ?_⟩;have hls5:=f5 _ _ nld J.ne J1.st;refine⟨_,rfl,_,rfl,one,fun l1 hl1=>?_⟩;have s6:=Z4 (o:=.lst [V.ref b]) (Z7.refl H5) hl1;have e6:(upd H5 l1 (.lst [V.ref b])) l1=some (.lst [V.ref b]):=Z2;generalize upd H5 l1 (.lst [V.ref b])=H6 at s6 e6;refine⟨ls,l1,_,_,rfl,rfl,s6 _ _ hls5,e6,by rw[Y05];show _+1<=_;omega,fun ls' hls'=>?_⟩;have em:bs.map V.ref++[V.ref b]=(bs++[b]).map V.ref:=(by simp);rw[em];have s7:=Z4 (o:=.lst ((bs++[b]).map V.ref)) (Z7.refl H6) hls';have d6:=d5.same s6;have f7:=f5.trans (Frm.of (s6.trans s7));have d7:=d6.same s7;have hb3':ZN H5 b3 y.1 y.2:=by
    obtain⟨q1,q2,g1,g2,g3⟩:=hb3;have nt:∀ {v:Addr} {ys:List V},H2 v=some (.tup ys)->v≠l:=fun z q=>by rw[q,hl]at z;cases z
    exact⟨q1,q2,k6 _ _ (nt g1) g1,k6 _ _ (nt g2) g2,k6 _ _ (nt g3) g3⟩
   refine k _ ls' b3 (as++[c]) (bs++[b]) (xs++[x]) y ((Frm.of s1).trans f7) ⟨d7,(J1.ea.mono fun z=>f7.sh J1.dk z).snoc (f7.sh J1.dk J1.cu) ⟨n,hS⟩,hb3'.same (s6.trans s7),⟨k3,hS3⟩,Z2,(J1.ss.mono fun z=>f7.sh J1.dk z).snoc (f7.sh J1.dk hb) ⟨k3,hS3⟩,fun z=>?_⟩ (by simp);rw[z,d6.lst]at hls';cases hls'
end
theorem ZiM (fs:List Int):∃ gs:List Int,Yi (fs.map V.int) none (some 40)=gs.map V.int/\gs.length<=40:=by
 unfold Yi;rw[<-List.map_drop,<-List.map_take];refine⟨_,rfl,?_⟩;rw[Y1m,Y05];have h1:HT.sIx fs.length 0 none=0:=rfl;have h2:HT.sIx fs.length fs.length (some 40)=min 40 fs.length:=HT.sIx_nat fs.length fs.length 40;rw[h1,h2];omega
noncomputable abbrev Zj2 (kv:List (Key×Value))(K:Y00)(C CN:Addr):L2.TS:=TK (TF (tB (Yz Sd [] E0 (ZM (WT C "say" (T6 kv K C CN) [] E0 (ZW 1) (ZM (ZW 5) Zx)) (ZM (Yz Zjh [] E0 (ZM (tOp (WQ K) (ZW 2) (tUn (rU fun i=>V.int (-i)) (tC (.int 1)))) (ZM (ZW 5) Zx))) Zx))))) (Xs (tC (.bl false))) Wf
theorem ask4 {kv:List (Key×Value)}{K:Y00}{C CN sc d dx e ls c:Addr}{as bs:List Addr}{xs:List Y0}{x:Y0}{j:Nat}{o3 o4:Option V}{D:YZ}{H:Hp}(hkv:Xu kv K)(J:JS C H d dx e ls c as bs xs x)(hx:xs.length<=100)(hj:j<4)
  (k:∀ H':Hp,Z7 H H'->D.nx [some (.ref sc),some (.ref d),some (.ref ls),o3,o4,some (.str (wT j))] H'):Zj2 kv K C CN D [some (.ref sc),some (.ref d),some (.ref ls),o3,o4,some (.str (wT j))] H:=by
 obtain⟨n,hS⟩:=J.sh;have l1:=J.ea.len;obtain⟨bs1,b2,eb,hb1,hb2,_⟩:=J.ss.unsnoc;refine⟨_,rfl,d,dx,_,rfl,J.dk.at_,W0 (by decide +kernel) (by decide +kernel),_,rfl,?_⟩;refine⟨d,dx,c,e,as,n,x.1,x.2,cp (wT j),_,by rw[Yb];rfl,J.dk,by omega,J.cu,hS,Zb7 hkv hj,.inr (.inr ⟨j,hj,rfl,fun H1 l zs s1 hl0 hl hD=>?_⟩)⟩;refine⟨_,rfl,_,rfl,ls,_,_,.ref b2,rfl,rfl,SqL.of (s1 _ _ J.st),by rw[eb,Y0t];exact Z5Z _ _,_,rfl,?_⟩;refine⟨b2,n,x.1,x.2,j,rfl,hb2.same s1,hS.row,hS.col,hS.most,hS.pos,hj,fun H2 d2 zs2 s2 hd0 hd2 hD2=>?_⟩;obtain rfl:=hD.uniq hD2;obtain⟨hz1,hz2⟩:=Zfr hS.row hS.col hS.most hD;refine⟨l,d2,zs,rfl,s2 _ _ hl,hd2,hz1,hz2,fun H3 k3=>?_⟩;refine⟨_,rfl,ZG ?_⟩;exact k H3 fun b o hb=>k3 b o (fun z=>by rw[z,hl0]at hb;cases hb) ((s1.trans s2) _ _ hb)
theorem Zj4 {kv:List (Key×Value)}{K:Y00}{C CN sc d dx e ls c:Addr}{as bs:List Addr}{xs:List Y0}{x:Y0}{j:Nat}{o3 o4:Option V}{D:YZ}{H:Hp}{rest:L2.TS}(hkv:Xu kv K)(J:JS C H d dx e ls c as bs xs x)(hx:xs.length<=100)(hj:j<4)
  (k:∀ H':Hp,Z7 H H'->rest D [some (.ref sc),some (.ref d),some (.ref ls),o3,o4,some (.str (wT j))] H'):Yh (Zj2 kv K C CN) rest D [some (.ref sc),some (.ref d),some (.ref ls),o3,o4,some (.str (wT j))] H:=ask4 hkv J hx hj k
def Sn (K:Y00):Sp:=fun vs H Q _=>∃ (a:Addr) (ns:List Int),vs=[.ref a]/\SqL K H a (ns.map V.int)/\∀ H':Hp,Q (.bl true) H'
section
variable {P:Program}{w:World}{K:Y00}{mg:Str->Option Value}{base:Heap}
noncomputable abbrev ZiA:List Str:=["_law_script","_law_desk","_law_states","_law_k","_law_cell","_law_word"]
theorem Wr:ZO ZiA ["_law_script"] (Z0 TN):=⟨rfl,rfl,rfl,by decide +kernel,rfl,by decide +kernel,by decide +kernel⟩
set_option maxHeartbeats 2000000 in
theorem Zh5 {f fi fs fa fp fr fl C CN:Addr}{fd di ds da dp dr dl:FuncData}{kv:List (Key×Value)}(TB:Bi mg)(hkv:Xu kv K)(T:KTx K C)(M:Mk K C fi)(mD:mg "Desk"=some (.ref C))(bD:YV K di ["self"] [])(GKi:Z6 P w K mg base CX0 7 fi di ["self"] (spKi C))(FSa:MFn K C "say" "Desk.say" Vi ["self","row"] fs ds)(GSa:Z6 P w K mg base (CX1 P w) 11 fs ds ["self","row"] (T6 kv K C CN))(FA:Fn K mg "_law_answer_is" WJ ["_law_found","_law_due"] fa da)(GA:Z6 P w K mg base CX0 1 fa da ["_law_found","_law_due"] Sd)(FP:Fn K mg "_law_plain_due" WK ["_law_sheet","_law_word"] fp dp)(GP:Z6 P w K mg base CX0 10 fp dp ["_law_sheet","_law_word"] Zjh)(FR:Fn K mg "_law_row_holds" U1 ["_law_desk","_law_states","_law_cell"] fr dr)(GR:Z6 P w K mg base CX0 13 fr dr ["_law_desk","_law_states","_law_cell"] (spRh C))(FL:Fn K mg "_law_lies" Ue ["_law_desk","_law_states"] fl dl)(GL:Z6 P w K mg base CX0 3 fl dl ["_law_desk","_law_states"] (ZfT C))(F:Fn K mg "law" TN ["_law_script"] f fd):Z6 P w K mg base CX0 14 f fd ["_law_script"] (Sn K):=by
 refine F.F.ok Wr (fun vs H Q E h=>?_) (fun cdv A outer s H vs Q E hr h=>?_)
 ·obtain⟨a,ns,rfl,_⟩:=h;rfl
 ·obtain⟨sc,ns,rfl,hS,k⟩:=h;have hr1:ZR 1 _:=hr.mono (by decide);have hr3:ZR 3 _:=hr.mono (by decide);have hr8:ZR 8 _:=hr.mono (by decide);have hr10:ZR 10 _:=hr.mono (by decide);have hr11:ZR 11 _:=hr.mono (by decide);have hr13:ZR 13 _:=hr.mono (by decide);have one:1<=sizeLine:=by decide
  have two:2<=sizeLine:=by decide
  have four:4<=sizeLine:=by decide
  refine⟨_,(Z5 (ZP (i:=1) Wr.nd rfl (Or.inl rfl) (ZcY M GKi hr8 rfl mD bD .nil ZX))
   (Z5 (ZP (i:=2) Wr.nd rfl (Or.inl rfl) (Y8 (Z9 (Y2 (Z9 (Y2 (Z9 Z3 Z8)) (Z9 (Y2 (Z9 Z3 Z8)) Z8))) Z8)))
   (Z5 (Zu (Yt (YW (ZU GL hr3 rfl FL.m FL.F.kp FL.b .nil ZX (Z9 (pv 1) (Z9 (pv 2) Z8))))) (Z1 (ZS Yy)) Zr)
   (Z5 (YQ PassesOwn.never rfl (Z8L rfl TB.enum (Z9 (UM Z8i (pv 0) Uq (Ux Z3)) Z8)) (Uy rfl (YG (ZE (i:=3) Wr.nd rfl (Or.inl rfl)) (YG (ZE (i:=4) Wr.nd rfl (Or.inl rfl)) Xn))) (Z5 (ZP (i:=5) Wr.nd rfl (Or.inl rfl) (ZY ZA (Y2 (Z9 ZH (Z9 ZH (Z9 ZH (Z9 ZH Z8))))) (ZJ YF (ZJ Xf (ZJ XZ (pv 4) Z3) (pv 3)) Z3) (fun _ _=>rfl)))
   (Z5 (Zu (Yt (YW (ZU GA hr1 rfl FA.m FA.F.kp FA.b .nil ZX (Z9 (Xm (pv 1) T.cl FSa.m GSa hr11 FSa.b .nil SF (Z9 (pv 5) Z8)) (Z9 (ZU GP hr10 rfl FP.m FP.F.kp FP.b .nil ZX (Z9 (ZY Zs (pv 2) (Ya Yc Z3) (fun _ _=>rfl)) (Z9 (pv 5) Z8))) Z8))))) (Z1 (ZS Yy)) Zr)
   (Z5 (ZP (i:=2) Wr.nd rfl (Or.inl rfl) (ZU GR hr13 rfl FR.m FR.F.kp FR.b .nil ZX (Z9 (pv 1) (Z9 (pv 2) (Z9 (pv 4) Z8)))))
   (Z5 (Zu (PW.pt (Vp (Zt Zg8 (pv 2) SH (Zw _)) (SM (Yt (YW (ZU GL hr3 rfl FL.m FL.F.kp FL.b .nil ZX (Z9 (pv 1) (Z9 (pv 2) Z8)))))))) (Z1 (ZS Yy)) Zr)
   (Z1 (Zu (Yt (YW (ZU GA hr1 rfl FA.m FA.F.kp FA.b .nil ZX (Z9 (Xm (pv 1) T.cl FSa.m GSa hr11 FSa.b .nil SF (Z9 (pv 5) Z8)) (Z9 (ZU GP hr10 rfl FP.m FP.F.kp FP.b .nil ZX (Z9 (ZY Zs (pv 2) (Ya Yc Z3) (fun _ _=>rfl)) (Z9 (pv 5) Z8))) Z8))))) (Z1 (ZS Yy)) Zr)))))))
   (Z1 (ZS Yy)))))),?_⟩
  intro d dx hd0 hdx0 ne;have s0:Z7 H (upd (upd H dx (.own d)) d (.ins C dx [])):=by
   have s1:=Z4 (o:=.own d) (Z7.refl H) hdx0;exact Z4 s1 hd0
  refine⟨d,dx,rfl,Z2,fun H1 c e fr he0 dk hc=>⟨rfl,?_⟩⟩;have s1:Z7 H H1:=fun b o hb=>fr b o (fun z=>by rw[z,hd0]at hb;cases hb) (s0 _ _ hb);dsimp only [ZC];refine⟨one,fun t1 ht1=>?_⟩;have s2:=Z4 (o:=.tup [V.int 0]) (Z7.refl H1) ht1;have e2:(upd H1 t1 (.tup [V.int 0])) t1=some (.tup [V.int 0]):=Z2;generalize upd H1 t1 (.tup [V.int 0])=H2 at s2 e2;refine⟨one,fun t2 ht2=>?_⟩;have s3:=Z4 (o:=.tup [V.int 0]) (Z7.refl H2) ht2;have e3:(upd H2 t2 (.tup [V.int 0])) t2=some (.tup [V.int 0]):=Z2;generalize upd H2 t2 (.tup [V.int 0])=H3 at s3 e3;refine⟨two,fun t3 ht3=>?_⟩;have s4:=Z4 (o:=.tup [V.ref t1,V.ref t2]) (Z7.refl H3) ht3;have e4:(upd H3 t3 (.tup [V.ref t1,V.ref t2])) t3=some (.tup [V.ref t1,V.ref t2]):=Z2;generalize upd H3 t3 (.tup [V.ref t1,V.ref t2])=H4 at s4 e4;refine⟨one,fun ls hls=>?_⟩;have s5:=Z4 (o:=.lst [V.ref t3]) (Z7.refl H4) hls;have e5:(upd H4 ls (.lst [V.ref t3])) ls=some (.lst [V.ref t3]):=Z2;have s14:=s2.trans (s3.trans s4);have nls:ls≠e:=fun z=>by rw[z,s14 _ _ dk.lst]at hls;cases hls
  generalize upd H4 ls (.lst [V.ref t3])=H5 at s5 e5;dsimp only [ZC];have s15:=s14.trans s5;have sht:ZN H5 t3 [0] [0]:=⟨t1,t2,s5 _ _ e4,s5 _ _ (s4 _ _ (s3 _ _ e2)),s5 _ _ (s4 _ _ e3)⟩;have J0:JS C H5 d dx e ls c [] [t3] [] ([0],[0]):=⟨dk.same s15,trivial,hc.same s15,⟨1,Zaj⟩,e5,⟨⟨sht,1,Zaj⟩,trivial⟩,nls⟩;refine⟨_,rfl,_,rfl,d,dx,e,ls,c,[],[t3],[],([0],[0]),rfl,J0,fun H6 s6=>?_⟩;refine⟨_,rfl,ZG ?_⟩;have J6:=J0.same s6;have hS6:=(s1.trans (s15.trans s6)).seq hS;dsimp only [Wf];refine⟨_,rfl,_,rfl,sc,_,rfl,hS6,fun l0 hl0=>?_⟩;obtain⟨gs,eg,hgs⟩:=ZiM ns;rw[eg];have s7:=Z4 (o:=.lst (gs.map V.int)) (Z7.refl H6) hl0;have e7:(upd H6 l0 (.lst (gs.map V.int))) l0=some (.lst (gs.map V.int)):=Z2;have n0d:l0≠d:=fun z=>by rw[z,J6.dk.at_]at hl0;cases hl0
  have n0e:l0≠e:=fun z=>by rw[z,J6.dk.lst]at hl0;cases hl0
  generalize upd H6 l0 (.lst (gs.map V.int))=H7 at s7 e7;refine⟨l0,rfl,⟨_,SqL.of e7⟩,SU (xs:=gs.map V.int) (fun i σ H8=>∃ (ls c:Addr) (as bs:List Addr) (xs:List Y0) (x:Y0) (o3 o4 o5:Option V),σ=[some (.ref sc),some (.ref d),some (.ref ls),o3,o4,o5]/\JS C H8 d dx e ls c as bs xs x/\xs.length<=i/\H8 l0=some (.lst (gs.map V.int))) ⟨ls,c,_,_,_,_,none,none,none,rfl,J6.same s7,Y04 _,e7⟩ (fun i σ H8 _ ⟨_,_,_,_,_,_,_,_,_,_,_,_,h⟩=>SqL.of h) ?_ ?_⟩
  ·rintro i v σ H8 T' hv hT ⟨ls,c,as,bs,xs,x,o3,o4,o5,rfl,J8,hxl,h8⟩;have hi:i<gs.length:=(by have:=(Y07.mp hv).1;rwa [Y05]at this);obtain⟨cell,rfl⟩:∃ cell:Int,v=.int cell:=by
    rw[Y0l,Y01 hi]at hv;exact⟨_,(Option.some.inj hv).symm⟩
   have sT:=Z4 (o:=Yq T' [.int (i:Int),.int cell]) (Z7.refl H8) hT;refine⟨T',_,rfl,Z2,rfl,_,_,rfl,_,_,rfl,rfl,?_⟩;generalize upd H8 T' (Yq T' [.int (i:Int),.int cell])=H9 at sT;have J9:=J8.same sT;have h9:=sT _ _ h8;refine⟨four,fun tp htp=>?_⟩;have sU:=Z4 (o:=.tup [V.str (Str.ofString "turns"),V.str (Str.ofString "counts"),V.str (Str.ofString "draw"),V.str (Str.ofString "bands")]) (Z7.refl H9) htp;have eU:(upd H9 tp (.tup [V.str (Str.ofString "turns"),V.str (Str.ofString "counts"),V.str (Str.ofString "draw"),V.str (Str.ofString "bands")])) tp=some (.tup [V.str (Str.ofString "turns"),V.str (Str.ofString "counts"),V.str (Str.ofString "draw"),V.str (Str.ofString "bands")]):=Z2;generalize upd H9 tp (.tup [V.str (Str.ofString "turns"),V.str (Str.ofString "counts"),V.str (Str.ofString "draw"),V.str (Str.ofString "bands")])=H10 at sU eU;obtain⟨j,hj⟩:∃ j:Nat,(cell/7+(i:Int))%4=(j:Int):=⟨((cell/7+(i:Int))%4).toNat,by omega⟩;have hj4:j<4:=(by omega);have hjt:([V.str (Str.ofString "turns"),V.str (Str.ofString "counts"),V.str (Str.ofString "draw"),V.str (Str.ofString "bands")]:List V)[j]?=some (.str (wT j)):=by
    match j,hj4 with
    | 0,_=>rfl
    | 1,_=>rfl
    | 2,_=>rfl
    | 3,_=>rfl
   refine⟨_,rfl,_,_,rfl,rfl,⟨by decide,by decide⟩,_,rfl,_,_,rfl,rfl,_,_,rfl,rfl,(by show (0:Int)<4;decide),tp,_,(j:Int),_,rfl,by show V.int ((cell/7+(i:Int))%4)=_;rw[hj],SqT.of eU,ZV hjt,?_⟩;have J10:=J9.same sU;have h10:=sU _ _ h9;dsimp only [ZC];show Yh _ _ _ [some (.ref sc),some (.ref d),some (.ref ls),some (.int (i:Int)),some (.int cell),some (.str (wT j))] H10;refine Zj4 hkv J10 (by omega) hj4 fun H11 s11=>?_;have J11:=J10.same s11;have h11:=s11 _ _ h10;refine⟨_,rfl,_,rfl,_,rfl,d,dx,e,ls,c,as,bs,xs,x,cell,rfl,J11,by omega,fun H12 ls' c' as' bs' xs' x' f12 J12 hl12=>?_⟩;have h12:=f12 _ _ n0d n0e h11;dsimp only [ZC];refine⟨_,rfl,rfl,_,rfl,?_⟩;rw[decide_eq_false (fun z=>by cases z)];refine ZG ?_;refine⟨_,rfl,_,rfl,d,dx,e,ls',c',as',bs',xs',x',rfl,J12,fun H13 s13=>?_⟩;refine⟨_,rfl,ZG ?_⟩;show Zj2 kv K C CN _ [some (.ref sc),some (.ref d),some (.ref ls'),some (.int (i:Int)),some (.int cell),some (.str (wT j))] H13;refine ask4 hkv (J12.same s13) (by omega) hj4 fun H14 s14=>?_;exact⟨ls',c',as',bs',xs',x',_,_,_,rfl,(J12.same s13).same s14,by omega,s14 _ _ (s13 _ _ h12)⟩
  ·rintro σ H8 ⟨_,_,_,_,_,_,_,_,_,rfl,_⟩;exact k _
end
structure ZhY (K:Y00)(C CD:Addr):Prop where
 cl:Cls K C
 kt:Y23 K (.ref C) (.ref CD)=some true
 ha:Y0v K (.ref C) "__class__"=some (some (.builtin "object.__class__"))
 hn:Y3f K (.builtin "object.__class__") "__get__"=some (some (.builtin "getset_descriptor.__get__"))
 htk:Y3t K (.builtin "object.__class__")=some true
 hm:Y48 K C (.type "object")=some true
def X2 (K:Y00)(C:Addr)(m qual:Str)(st:Stmt):Prop:=∃ f fd,Fun K m qual st f fd/\Vb K C m f
theorem Xk {K:Y00}{C:Addr}{m qual:Str}{st:Stmt}{f:Addr}{oc:Value}{od an:Option Addr}{osl:Array (Option Value)}{kV doc pm cdv ct:Value}(a:Y0v K (.ref C) m=some (some (.ref f)))(i:Y3k K (.ref f)=true)
  (l:K.lookup f=some ⟨oc,od,.func (Y17 m qual (YL st) (YY st) (Z0 st) .none kV doc pm an cdv ct),osl⟩) (c:Y24 K cdv qual=true) (k:Y18 K (.ref f)=true):X2 K C m qual st:=
 ⟨f,_,SD l c k,a,i,k⟩
theorem X2.fn {K:Y00}{C:Addr}{m qual:Str}{st:Stmt}{ps:List Str}(R:X2 K C m qual st)
  (b:∀ (kV doc pm:Value) (an:Option Addr) (cdv ct:Value) (us:List Value),us.length=ps.length->bindArgs (Y17 m qual (YL st) (YY st) (Z0 st) .none kV doc pm an cdv ct) ⟨us,[]⟩=pure (ps.zip us)):∃ f fd,MFn K C m qual st ps f fd:=by
 obtain⟨f,fd,F,M⟩:=R;exact⟨f,fd,F,F.binds b,M⟩
structure DIn (K:Y00)(C:Addr)(qual:Str)(st:Stmt)(f:Addr)(fd:FuncData):Prop where
 M:Mk K C f
 F:Fun K "__init__" qual st f fd
 b:YV K fd ["self","many"] []
theorem Zev {K:Y00}{C f:Addr}{qual:Str}{st:Stmt}{oc:Value}{od an:Option Addr}{osl:Array (Option Value)}{kV doc pm cdv ct:Value}(mk:Y2u K C=true)(kc:Y18 K (.ref C)=true)
  (a:Y0v K (.ref C) "__init__"=some (some (.ref f))) (i:Y3k K (.ref f)=true)
  (l:K.lookup f=some ⟨oc,od,.func (Y17 "__init__" qual (YL st) (YY st) (Z0 st) .none kV doc pm an cdv ct),osl⟩) (c:Y24 K cdv qual=true) (k:Y18 K (.ref f)=true)
  (b:∀ (kV doc pm:Value) (an:Option Addr) (cdv ct:Value) (us:List Value),us.length=(["self","many"]:List Str).length->bindArgs (Y17 "__init__" qual (YL st) (YY st) (Z0 st) .none kV doc pm an cdv ct) ⟨us,[]⟩=pure ((["self","many"]:List Str).zip us)):∃ f fd,DIn K C qual st f fd:=by
 have F:=SD l c k;exact⟨f,_,⟨mk,a,i,kc⟩,F,F.binds b⟩
structure DC0 (K:Y00)(C CD:Addr):Prop where
 pg:Y35 K C Str.empty=true
 hd:Y3e K C=true
 po:Y46 K C=true
 sa:Y0v K (.ref C) "__setattr__"=some (some (.builtin "object.__setattr__"))
 ha:Y0v K (.ref C) "__class__"=some (some (.builtin "object.__class__"))
 hn:Y3f K (.builtin "object.__class__") "__get__"=some (some (.builtin "getset_descriptor.__get__"))
 htk:Y3t K (.builtin "object.__class__")=some true
 hm:Y48 K C (.type "object")=some true
 ty:Y3i K (.ref CD)=some (.type "type")
 cl:PySem.W.isClsIn K CD=true
 sb:Y2o K (.ref C) (.ref CD)=some true
theorem DC0.tx {K:Y00}{C CD:Addr}(h:DC0 K C CD):ZhY K C CD:=by
 refine⟨⟨h.pg,h.hd,h.po,h.sa⟩,?_,h.ha,h.hn,h.htk,h.hm⟩;unfold Y23
 by_cases e:C=CD
 ·subst e;rw[if_pos (by simp)]
 ·rw[if_neg (by simpa using e)];unfold PySem.W.kitCls;dsimp only;rw[if_pos (by rw[show (Y3q K CD).isSome=true from h.cl,h.ty];decide)];exact h.sb
theorem DC0.dt {K:Y00}{C CD:Addr}(h:DC0 K C CD)(n:Y0v K (.ref C) "many"=some none):DTx K C:=⟨h.tx.cl,n⟩
theorem Xg {k:Key}{v:Value}{vs:List (Key×Value)}:valueAt ((k,v)::vs) k=some v:=by simp[valueAt]
theorem Zm {k k':Key}{v w:Value}{vs:List (Key×Value)}(h:k'≠k)(r:valueAt vs k=some w):valueAt ((k',v)::vs) k=some w:=by
 unfold valueAt at r ⊢;rw[List.find?_cons_of_neg (by simpa using h)];exact r
theorem ZiQ {K:Y00}{v0:Addr}{v1:Addr}{v2:Addr}{v3:Addr}{v4:Addr}{v5:Value}{v6:Addr}{v7:Addr}{v8:Addr}{v9:Value}{v10:Addr}{v11:Value}{v12:Value}{v13:Value}{v14:Value}(h0:TTs K v0 [Str.ofString "text",Str.ofString "text"])(h1:TTs K v1 [Str.ofString "number"])(h2:TTs K v2 [Str.ofString "number"])(h3:TTs K v3 [Str.ofString "side"])(h4:TTs K v4 [])(h6:TTs K v6 [])(h7:TTs K v7 [])(h8:TTs K v8 [])(h10:TTs K v10 []):Xu [(Sum.inr (Str.ofString "sheet"),(.ref v0)),(Sum.inr (Str.ofString "shear"),(.ref v1)),(Sum.inr (Str.ofString "turn"),(.ref v2)),(Sum.inr (Str.ofString "mirror"),(.ref v3)),(Sum.inr (Str.ofString "undo"),(.ref v4)),(Sum.inr (Str.ofString "form"),v5),(Sum.inr (Str.ofString "turns"),(.ref v6)),(Sum.inr (Str.ofString "counts"),(.ref v7)),(Sum.inr (Str.ofString "bands"),(.ref v8)),(Sum.inr (Str.ofString "along"),v9),(Sum.inr (Str.ofString "draw"),(.ref v10)),(Sum.inr (Str.ofString "walk"),v11),(Sum.inr (Str.ofString "same"),v12),(Sum.inr (Str.ofString "reach"),v13),(Sum.inr (Str.ofString "over"),v14)] K where
 sheet:=⟨_,Xg,h0⟩
 shear:=⟨_,(Zm (by decide +kernel) Xg),h1⟩
 turn:=⟨_,(Zm (by decide +kernel) (Zm (by decide +kernel) Xg)),h2⟩
 mirror:=⟨_,(Zm (by decide +kernel) (Zm (by decide +kernel) (Zm (by decide +kernel) Xg))),h3⟩
 undo:=⟨_,(Zm (by decide +kernel) (Zm (by decide +kernel) (Zm (by decide +kernel) (Zm (by decide +kernel) Xg)))),h4⟩
 plain:=fun j hj=>by
  match j,hj with
  | 0,_=>exact⟨_,(Zm (by decide +kernel) (Zm (by decide +kernel) (Zm (by decide +kernel) (Zm (by decide +kernel) (Zm (by decide +kernel) (Zm (by decide +kernel) Xg)))))),h6⟩
  | 1,_=>exact⟨_,(Zm (by decide +kernel) (Zm (by decide +kernel) (Zm (by decide +kernel) (Zm (by decide +kernel) (Zm (by decide +kernel) (Zm (by decide +kernel) (Zm (by decide +kernel) Xg))))))),h7⟩
  | 2,_=>exact⟨_,(Zm (by decide +kernel) (Zm (by decide +kernel) (Zm (by decide +kernel) (Zm (by decide +kernel) (Zm (by decide +kernel) (Zm (by decide +kernel) (Zm (by decide +kernel) (Zm (by decide +kernel) (Zm (by decide +kernel) (Zm (by decide +kernel) Xg)))))))))),h10⟩
  | 3,_=>exact⟨_,(Zm (by decide +kernel) (Zm (by decide +kernel) (Zm (by decide +kernel) (Zm (by decide +kernel) (Zm (by decide +kernel) (Zm (by decide +kernel) (Zm (by decide +kernel) (Zm (by decide +kernel) Xg)))))))),h8⟩
structure DIn1 (K:Y00)(C:Addr)(qual:Str)(st:Stmt)(f:Addr)(fd:FuncData):Prop where
 M:Mk K C f
 F:Fun K "__init__" qual st f fd
 b:YV K fd ["self"] []
theorem Zfy {K:Y00}{C f:Addr}{qual:Str}{st:Stmt}{oc:Value}{od an:Option Addr}{osl:Array (Option Value)}{kV doc pm cdv ct:Value}(mk:Y2u K C=true)(kc:Y18 K (.ref C)=true)
  (a:Y0v K (.ref C) "__init__"=some (some (.ref f))) (i:Y3k K (.ref f)=true)
  (l:K.lookup f=some ⟨oc,od,.func (Y17 "__init__" qual (YL st) (YY st) (Z0 st) .none kV doc pm an cdv ct),osl⟩) (c:Y24 K cdv qual=true) (k:Y18 K (.ref f)=true)
  (b:∀ (kV doc pm:Value) (an:Option Addr) (cdv ct:Value) (us:List Value),us.length=(["self"]:List Str).length->bindArgs (Y17 "__init__" qual (YL st) (YY st) (Z0 st) .none kV doc pm an cdv ct) ⟨us,[]⟩=pure ((["self"]:List Str).zip us)):∃ f fd,DIn1 K C qual st f fd:=by
 have F:=SD l c k;exact⟨f,_,⟨mk,a,i,kc⟩,F,F.binds b⟩
def Raw (K:Y00)(x:Str)(st:Stmt):Prop:=∃ f fd,Fun K x x st f fd/\Y0n K mainGlobals x=some (some (.ref f))/\∃ kV doc pm an cdv ct,fd=Y17 x x (YL st) (YY st) (Z0 st) .none kV doc pm an cdv ct
theorem Zz {K:Y00}{x:Str}{st:Stmt}{f:Addr}{oc:Value}{od an:Option Addr}{osl:Array (Option Value)}{kV doc pm cdv ct:Value}(a:Y0n K mainGlobals x=some (some (.ref f)))
  (l:K.lookup f=some ⟨oc,od,.func (Y17 x x (YL st) (YY st) (Z0 st) .none kV doc pm an cdv ct),osl⟩) (c:Y24 K cdv x=true) (k:Y18 K (.ref f)=true):Raw K x st:=
 ⟨f,_,SD l c k,a,kV,doc,pm,an,cdv,ct,rfl⟩
theorem Raw.fn {K:Y00}{h:Heap}{mg:Str->Option Value}{x:Str}{st:Stmt}{ps:List Str}(X:K.In h)(G:h.Ns mainGlobals mg)(R:Raw K x st)
  (b:∀ (kV doc pm:Value) (an:Option Addr) (cdv ct:Value) (us:List Value),us.length=ps.length->bindArgs (Y17 x x (YL st) (YY st) (Z0 st) .none kV doc pm an cdv ct) ⟨us,[]⟩=pure (ps.zip us)):∃ f fd,Fn K mg x st ps f fd:=by
 obtain⟨f,fd,F,a,_⟩:=R;exact⟨f,fd,F,F.binds b,Y11 X G a⟩
theorem lk1 {p:Value->Value->Value->Option Addr->Value->Value->List Value->Prop}(h:∀ k l m n x y a,p k l m n x y [a]):∀ k l m n x y (us:List Value),us.length=1->p k l m n x y us:=fun k l m n x y us hl=>match us,hl with|[_],_=>h _ _ _ _ _ _ _
theorem lk2 {p:Value->Value->Value->Option Addr->Value->Value->List Value->Prop}(h:∀ k l m n x y a b,p k l m n x y [a,b]):∀ k l m n x y (us:List Value),us.length=2->p k l m n x y us:=fun k l m n x y us hl=>match us,hl with|[_,_],_=>h _ _ _ _ _ _ _ _
theorem lk3 {p:Value->Value->Value->Option Addr->Value->Value->List Value->Prop}(h:∀ k l m n x y a b c,p k l m n x y [a,b,c]):∀ k l m n x y (us:List Value),us.length=3->p k l m n x y us:=fun k l m n x y us hl=>match us,hl with|[_,_,_],_=>h _ _ _ _ _ _ _ _ _
theorem lk4 {p:Value->Value->Value->Option Addr->Value->Value->List Value->Prop}(h:∀ k l m n x y a b c d,p k l m n x y [a,b,c,d]):∀ k l m n x y (us:List Value),us.length=4->p k l m n x y us:=fun k l m n x y us hl=>match us,hl with|[_,_,_,_],_=>h _ _ _ _ _ _ _ _ _ _
set_option maxHeartbeats 0 in
theorem Zgl {l:PySem.W.OpenLaw}{w:World}{K:Y00}{h:Heap}{mg:Str->Option Value}{fa:Addr}{w0g:Tok}{w0i:Tok}{w0U:Tok}{w15:Tok}{w2m:Tok}{w1v:Tok}{w0k:Tok}{w0D:Tok}{w0n:Tok}{w0t:Tok}{w2i:Addr}{w1F:Addr}{w1K:Addr}{w1B:Addr}{w1y:Addr}{w1J:Addr}{w22:Value}{w20:Addr}{w1Z:Addr}{w1O:Addr}{w1W:Value}{w1k:Addr}{w1l:Value}{w1e:Value}{w18:Value}{w1c:Value}{w1o:Addr}{CN:Addr}{CD:Addr}{CS:Addr}{CT:Addr}{CA:Addr}{CU:Addr}{CK:Addr}(X:K.In h)(G:h.Ns mainGlobals mg)(hfa:mg "law"=some (.ref fa))
  (w12:Raw K "sheet_of" UI)
  (w2E:Raw K "size" Vj)
  (w0X:Raw K "back_row" W1)
  (w0m:Raw K "checked_rows" UH)
  (w05:Raw K "has_each_once" Vh)
  (w0W:Raw K "is_whole" UR)
  (w0M:Raw K "is_square" T3)
  (w0P:Raw K "groups_of" Uv)
  (w0E:Raw K "step_rows" Ua)
  (w0A:Raw K "paths_from" Um)
  (w0u:Raw K "cycle_from" U0)
  (w1U:Raw K "cycles" XF)
  (w1a:Raw K "corners" WD)
  (w2g:Raw K "turns" VB)
  (w21:Raw K "counts" UB)
  (w14:Raw K "turn_row" VU)
  (w08:Raw K "rough_squares" U6)
  (w2s:Raw K "rows" T2)
  (w1q:Raw K "borders" UT)
  (w2n:Raw K "bands" WX)
  (w10:Raw K "has_some" WC)
  (w0O:Raw K "band_from" V2)
  (w0F:Raw K "above_all" V4)
  (w0J:Raw K "has_shift" V3)
  (w24:Raw K "turned" UA)
  (w0V:TX K "mirrored" V0 ["sheet","across"] (.bl true))
  (w2p:Raw K "shown" Ug)
  (w2A:Raw K "read" Vg)
  (w16:Raw K "is_pair" Us)
  (w1t:Raw K "is_word" VG)
  (w13:Raw K "signs_of" VP)
  (w0v:Raw K "squares_of" V5)
  (w0H:Raw K "things_in" VZ)
  (w2v:Raw K "need" Wl)
  (w0S:Raw K "thing_in" UP)
  (w0K:Raw K "number_in" V1)
  (w2q:Raw K "drawn" Vs)
  (w1s:Raw K "between" VX)
  (w1b:Raw K "changed" UJ)
  (w11:Raw K "sheet_in" UG)
  (w1u:Raw K "deed_in" Uw)
  (w1R:Raw K "answer" VO)
  (w0l:Raw K "numbers_text" WL)
  (w0N:Raw K "band_text" UV)
  (w0z:Raw K "_law_whole" Vz)
  (w06:Raw K "_law_together" WH)
  (w01:Raw K "_law_mixed_sheet" U5)
  (w0I:Raw K "_law_back" Wm)
  (w07:Raw K "_law_is_sheet" VS)
  (w0y:Raw K "_law_shown" Xl)
  (w0p:Raw K "_law_sheared" UZ)
  (w0r:Raw K "_law_turned" UL)
  (w0x:Raw K "_law_turns" VI)
  (w0a:Raw K "_law_drawing" W9)
  (w02:Raw K "_law_plain_due" WK)
  (w0o:Raw K "_law_changed" UX)
  (w03:Raw K "_law_answer_is" WJ)
  (w00:Raw K "_law_nothing_done" U7)
  (w04:Raw K "_law_row_holds" U1)
  (w0Q:Raw K "_law_lies" Ue)
  (w2I:Raw K "law" TN)
  (w09:Y0n K mainGlobals "MOST_SQUARES"=some (some (.int 36 w0g)))
  (w0h:Y0n K mainGlobals "MOST_LETTERS"=some (some (.int 1000 w0i)))
  (w0R:Y0n K mainGlobals "GREATEST"=some (some (.int 60 w0U)))
  (w0T:Y0n K mainGlobals "FARTHEST"=some (some (.int 60 w15)))
  (w2c:Y0n K mainGlobals "SIGNS"=some (some (.str (Str.ofString "0123456789abcdefghijklmnopqrstuvwxyz") w2m)))
  (w1i:Y0n K mainGlobals "FIGURES"=some (some (.str (Str.ofString "0123456789") w1v)))
  (w0b:Y0n K mainGlobals "MOST_FIGURES"=some (some (.int 3 w0k)))
  (w0B:Y0n K mainGlobals "MOST_STEPS"=some (some (.int 60 w0D)))
  (w0f:Y0n K mainGlobals "MOST_REACHED"=some (some (.int 200 w0n)))
  (w0q:Y0n K mainGlobals "FIRST_SHEET"=some (some (.str (Str.ofString "0 0") w0t)))
  (w3a:Y0n K mainGlobals "NothingDone"=some (some (.ref CN))) (w3v:Vd K CN)
  (w40:Wh K CN)
  (s0:Y2o K (.ref CN) (.ref CN)=some true)
  (w35:Y0n K mainGlobals "Deed"=some (some (.ref CD))) (w46:DC0 K CD CD)
  (w3s:Y0n K mainGlobals "Shear"=some (some (.ref CS))) (w3N:DC0 K CS CD)
  (w31:Y0n K mainGlobals "Turn"=some (some (.ref CT))) (w4j:DC0 K CT CD)
  (w36:Y0n K mainGlobals "MirrorAcross"=some (some (.ref CA))) (w3m:DC0 K CA CD)
  (w3Q:Y0n K mainGlobals "MirrorUp"=some (some (.ref CU))) (w4n:DC0 K CU CD)
  (w3t:Y0n K mainGlobals "Desk"=some (some (.ref CK))) (w48:DC0 K CK CK)
  (w3Z:∃ f fd,DIn K CS "Shear.__init__" Z7L f fd)
  (w3k:∃ f fd,DIn K CT "Turn.__init__" Z8h f fd)
  (w4f:∃ f fd,DIn1 K CK "Desk.__init__" Zai f fd)
  (w2N:Y0v K (.ref CK) "lying"=some none) (w2T:Y0v K (.ref CK) "earlier"=some none)
  (w34:Mk0 K CA)
  (w3B:Mk0 K CU)
  (w4e:Y0v K (.ref CS) "many"=some none)
  (w41:Y0v K (.ref CT) "many"=some none)
  (w4l:X2 K CS "done" "Shear.done" Up)
  (w32:X2 K CT "done" "Turn.done" S3)
  (w47:X2 K CA "done" "MirrorAcross.done" S6)
  (w4m:X2 K CU "done" "MirrorUp.done" SX)
  (w3H:X2 K CK "say" "Desk.say" Vi)
  (w3g:X2 K CK "sheet" "Desk.sheet" SZ)
  (w39:X2 K CK "steps" "Desk.steps" S7)
  (w3l:X2 K CK "lay" "Desk.lay" Sv)
  (w3p:X2 K CK "undo" "Desk.undo" SN)
  (w2f:Y0n K mainGlobals "KINDS"=some (some (.ref w2i))) (w2d:TDi l.prog w K w2i [(Sum.inr (Str.ofString "sheet"),(.ref w1F)),(Sum.inr (Str.ofString "shear"),(.ref w1K)),(Sum.inr (Str.ofString "turn"),(.ref w1B)),(Sum.inr (Str.ofString "mirror"),(.ref w1y)),(Sum.inr (Str.ofString "undo"),(.ref w1J)),(Sum.inr (Str.ofString "form"),w22),(Sum.inr (Str.ofString "turns"),(.ref w20)),(Sum.inr (Str.ofString "counts"),(.ref w1Z)),(Sum.inr (Str.ofString "bands"),(.ref w1O)),(Sum.inr (Str.ofString "along"),w1W),(Sum.inr (Str.ofString "draw"),(.ref w1k)),(Sum.inr (Str.ofString "walk"),w1l),(Sum.inr (Str.ofString "same"),w1e),(Sum.inr (Str.ofString "reach"),w18),(Sum.inr (Str.ofString "over"),w1c)])
  (w19:Y0n K mainGlobals "CHANGES"=some (some (.ref w1o))) (w1d:TTs K w1o [Str.ofString "sheet",Str.ofString "shear",Str.ofString "turn",Str.ofString "mirror"])
  (w1G:TTs K w1F [Str.ofString "text",Str.ofString "text"])
  (w1V:TTs K w1K [Str.ofString "number"])
  (w1N:TTs K w1B [Str.ofString "number"])
  (w1A:TTs K w1y [Str.ofString "side"])
  (w1z:TTs K w1J [])
  (w1D:TTs K w20 [])
  (w1Y:TTs K w1Z [])
  (w1E:TTs K w1O [])
  (w1m:TTs K w1k [])
  (w2X:Y0n K mainGlobals "len"=some none)
  (w29:Y0n K mainGlobals "range"=some none)
  (w2B:Y0n K mainGlobals "list"=some none)
  (w2e:Y0n K mainGlobals "tuple"=some none)
  (w0C:Y0n K mainGlobals "isinstance"=some none)
  (w2G:Y0n K mainGlobals "int"=some none)
  (w2C:Y0n K mainGlobals "bool"=some none)
  (w2R:Y0n K mainGlobals "all"=some none)
  (w2K:Y0n K mainGlobals "set"=some none)
  (w26:Y0n K mainGlobals "sorted"=some none)
  (w0L:Y0n K mainGlobals "enumerate"=some none)
  (w2V:Y0n K mainGlobals "min"=some none)
  (w2M:Y0n K mainGlobals "any"=some none)
  (w2S:Y0n K mainGlobals "zip"=some none)
  (w2L:Y0n K mainGlobals "str"=some none)
  : ∃ fd:FuncData,(∀ (s:Shared) (v:Value),BindsTo s fd ⟨[v],[]⟩ [("_law_script",v)])/\∀ base:Heap,K.In base->base.Ns mainGlobals mg->Z6 l.prog w K mg base CX0 14 fa fd ["_law_script"] (Sn K):=by
 have T:Bi mg:=⟨Y12 X G w2X,Y12 X G w29,Y12 X G w2B,Y12 X G w2e,Y12 X G w0C,Y12 X G w2G,Y12 X G w2C,Y12 X G w2R,Y12 X G w2K,Y12 X G w26,Y12 X G w0L⟩;have T_min:mg "min"=none:=Y12 X G w2V;have w2P:mg "any"=none:=Y12 X G w2M;have w2Q:mg "zip"=none:=Y12 X G w2S;have T_str:mg "str"=none:=Y12 X G w2L;have w0e:=Y11 X G w09;have w0j:=Y11 X G w0h;have w0Y:=Y11 X G w0R;have w0Z:=Y11 X G w0T;have w2a:=Y11 X G w2c;have w1p:=Y11 X G w1i;have w0d:=Y11 X G w0b;have w0w:=Y11 X G w0B;have w0c:=Y11 X G w0f;have w0s:=Y11 X G w0q;have w2h:=Y11 X G w2f;have w28:=w2d;have w17:=Y11 X G w19;have w1g:=w1d;have w1S:=w1G;have w27:=w1V;have w1P:=w1N;have w1M:=w1A;have w1T:=w1z;have w1H:=w1D;have w1C:=w1Y;have w1L:=w1E;have w1x:=w1m;have w3S:=Y11 X G w3a;have w3n:=Y11 X G w35;have w3r:=w46.tx;have w3I:=Y11 X G w3s;have w3w:=w3N.tx;have w3f:=Y11 X G w31;have w4h:=w4j.tx;have w3L:=Y11 X G w36;have w4o:=w3m.tx;have w3G:=Y11 X G w3Q;have w3x:=w4n.tx;have w3O:=Y11 X G w3t;have w3h:=w48.tx;obtain⟨fi_CS,di_CS,I_CS⟩:=w3Z;obtain⟨fi_CT,di_CT,I_CT⟩:=w3k;obtain⟨fi_CK,di_CK,I_CK⟩:=w4f;have TK_CK:KTx K CK:=⟨w3h.cl,w2N,w2T⟩;have N_CS:XX K CS "many":=w4e;have w2Y:=w3N.dt w4e;have N_CT:XX K CT "many":=w41;have w2U:=w4j.dt w41;obtain⟨f_S0,d_S0,F_S0⟩:=w4l.fn (ps:=["self","sheet"]) (K1.lk2 fun _ _ _ _ _ _ _ _=>rfl);obtain⟨f_T0,d_T0,F_T0⟩:=w32.fn (ps:=["self","sheet"]) (K1.lk2 fun _ _ _ _ _ _ _ _=>rfl);obtain⟨f_A0,d_A0,F_A0⟩:=w47.fn (ps:=["self","sheet"]) (K1.lk2 fun _ _ _ _ _ _ _ _=>rfl);obtain⟨f_U0,d_U0,F_U0⟩:=w4m.fn (ps:=["self","sheet"]) (K1.lk2 fun _ _ _ _ _ _ _ _=>rfl);obtain⟨f_K1,d_K1,F_K1⟩:=w3H.fn (ps:=["self","row"]) (K1.lk2 fun _ _ _ _ _ _ _ _=>rfl);obtain⟨f_K2,d_K2,F_K2⟩:=w3g.fn (ps:=["self"]) (K1.lk1 fun _ _ _ _ _ _ _=>rfl);obtain⟨f_K3,d_K3,F_K3⟩:=w39.fn (ps:=["self"]) (K1.lk1 fun _ _ _ _ _ _ _=>rfl);obtain⟨f_K4,d_K4,F_K4⟩:=w3l.fn (ps:=["self","sheet"]) (K1.lk2 fun _ _ _ _ _ _ _ _=>rfl);obtain⟨f_K5,d_K5,F_K5⟩:=w3p.fn (ps:=["self"]) (K1.lk1 fun _ _ _ _ _ _ _=>rfl);obtain⟨f_sheet_of,d_sheet_of,F_sheet_of⟩:=w12.fn (ps:=["right","up"]) X G (K1.lk2 fun _ _ _ _ _ _ _ _=>rfl);obtain⟨f_size,d_size,F_size⟩:=w2E.fn (ps:=["sheet"]) X G (K1.lk1 fun _ _ _ _ _ _ _=>rfl);obtain⟨f_back_row,d_back_row,F_back_row⟩:=w0X.fn (ps:=["row"]) X G (K1.lk1 fun _ _ _ _ _ _ _=>rfl);obtain⟨f_checked_rows,d_checked_rows,F_checked_rows⟩:=w0m.fn (ps:=["right","up"]) X G (K1.lk2 fun _ _ _ _ _ _ _ _=>rfl);obtain⟨f_has_each_once,d_has_each_once,F_has_each_once⟩:=w05.fn (ps:=["row"]) X G (K1.lk1 fun _ _ _ _ _ _ _=>rfl);obtain⟨f_is_whole,d_is_whole,F_is_whole⟩:=w0W.fn (ps:=["thing"]) X G (K1.lk1 fun _ _ _ _ _ _ _=>rfl);obtain⟨f_is_square,d_is_square,F_is_square⟩:=w0M.fn (ps:=["thing","squares"]) X G (K1.lk2 fun _ _ _ _ _ _ _ _=>rfl);obtain⟨f_groups_of,d_groups_of,F_groups_of⟩:=w0P.fn (ps:=["rows"]) X G (K1.lk1 fun _ _ _ _ _ _ _=>rfl);obtain⟨f_step_rows,d_step_rows,F_step_rows⟩:=w0E.fn (ps:=["rows"]) X G (K1.lk1 fun _ _ _ _ _ _ _=>rfl);obtain⟨f_paths_from,d_paths_from,F_paths_from⟩:=w0A.fn (ps:=["rows","first"]) X G (K1.lk2 fun _ _ _ _ _ _ _ _=>rfl);obtain⟨f_cycle_from,d_cycle_from,F_cycle_from⟩:=w0u.fn (ps:=["row","first"]) X G (K1.lk2 fun _ _ _ _ _ _ _ _=>rfl);obtain⟨f_cycles,d_cycles,F_cycles⟩:=w1U.fn (ps:=["row"]) X G (K1.lk1 fun _ _ _ _ _ _ _=>rfl);obtain⟨f_corners,d_corners,F_corners⟩:=w1a.fn (ps:=["sheet"]) X G (K1.lk1 fun _ _ _ _ _ _ _=>rfl);obtain⟨f_turns,d_turns,F_turns⟩:=w2g.fn (ps:=["sheet"]) X G (K1.lk1 fun _ _ _ _ _ _ _=>rfl);obtain⟨f_counts,d_counts,F_counts⟩:=w21.fn (ps:=["sheet"]) X G (K1.lk1 fun _ _ _ _ _ _ _=>rfl);obtain⟨f_turn_row,d_turn_row,F_turn_row⟩:=w14.fn (ps:=["sheet"]) X G (K1.lk1 fun _ _ _ _ _ _ _=>rfl);obtain⟨f_rough_squares,d_rough_squares,F_rough_squares⟩:=w08.fn (ps:=["sheet"]) X G (K1.lk1 fun _ _ _ _ _ _ _=>rfl);obtain⟨f_rows,d_rows,F_rows⟩:=w2s.fn (ps:=["sheet"]) X G (K1.lk1 fun _ _ _ _ _ _ _=>rfl);obtain⟨f_borders,d_borders,F_borders⟩:=w1q.fn (ps:=["sheet"]) X G (K1.lk1 fun _ _ _ _ _ _ _=>rfl);obtain⟨f_bands,d_bands,F_bands⟩:=w2n.fn (ps:=["sheet"]) X G (K1.lk1 fun _ _ _ _ _ _ _=>rfl);obtain⟨f_has_some,d_has_some,F_has_some⟩:=w10.fn (ps:=["edge","squares"]) X G (K1.lk2 fun _ _ _ _ _ _ _ _=>rfl);obtain⟨f_band_from,d_band_from,F_band_from⟩:=w0O.fn (ps:=["sheet","edge","lowest"]) X G (K1.lk3 fun _ _ _ _ _ _ _ _ _=>rfl);obtain⟨f_above_all,d_above_all,F_above_all⟩:=w0F.fn (ps:=["sheet","squares"]) X G (K1.lk2 fun _ _ _ _ _ _ _ _=>rfl);obtain⟨f_has_shift,d_has_shift,F_has_shift⟩:=w0J.fn (ps:=["edge","lowest","above","t"]) X G (K1.lk4 fun _ _ _ _ _ _ _ _ _ _=>rfl);obtain⟨f_turned,d_turned,F_turned⟩:=w24.fn (ps:=["sheet"]) X G (K1.lk1 fun _ _ _ _ _ _ _=>rfl);obtain⟨f_mirrored,d_mirrored,v_mirrored,F_mirrored⟩:=w0V.fn X G;obtain⟨f_shown,d_shown,F_shown⟩:=w2p.fn (ps:=["sheet"]) X G (K1.lk1 fun _ _ _ _ _ _ _=>rfl);obtain⟨f_read,d_read,F_read⟩:=w2A.fn (ps:=["text"]) X G (K1.lk1 fun _ _ _ _ _ _ _=>rfl);obtain⟨f_is_pair,d_is_pair,F_is_pair⟩:=w16.fn (ps:=["words"]) X G (K1.lk1 fun _ _ _ _ _ _ _=>rfl);obtain⟨f_is_word,d_is_word,F_is_word⟩:=w1t.fn (ps:=["word"]) X G (K1.lk1 fun _ _ _ _ _ _ _=>rfl);obtain⟨f_signs_of,d_signs_of,F_signs_of⟩:=w13.fn (ps:=["row"]) X G (K1.lk1 fun _ _ _ _ _ _ _=>rfl);obtain⟨f_squares_of,d_squares_of,F_squares_of⟩:=w0v.fn (ps:=["word"]) X G (K1.lk1 fun _ _ _ _ _ _ _=>rfl);obtain⟨f_things_in,d_things_in,F_things_in⟩:=w0H.fn (ps:=["row"]) X G (K1.lk1 fun _ _ _ _ _ _ _=>rfl);obtain⟨f_need,d_need,F_need⟩:=w2v.fn (ps:=["fits"]) X G (K1.lk1 fun _ _ _ _ _ _ _=>rfl);obtain⟨f_thing_in,d_thing_in,F_thing_in⟩:=w0S.fn (ps:=["word","kind"]) X G (K1.lk2 fun _ _ _ _ _ _ _ _=>rfl);obtain⟨f_number_in,d_number_in,F_number_in⟩:=w0K.fn (ps:=["word"]) X G (K1.lk1 fun _ _ _ _ _ _ _=>rfl);obtain⟨f_drawn,d_drawn,F_drawn⟩:=w2q.fn (ps:=["sheet"]) X G (K1.lk1 fun _ _ _ _ _ _ _=>rfl);obtain⟨f_between,d_between,F_between⟩:=w1s.fn (ps:=["border","squares"]) X G (K1.lk2 fun _ _ _ _ _ _ _ _=>rfl);obtain⟨f_changed,d_changed,F_changed⟩:=w1b.fn (ps:=["sheet","asked"]) X G (K1.lk2 fun _ _ _ _ _ _ _ _=>rfl);obtain⟨f_sheet_in,d_sheet_in,F_sheet_in⟩:=w11.fn (ps:=["asked"]) X G (K1.lk1 fun _ _ _ _ _ _ _=>rfl);obtain⟨f_deed_in,d_deed_in,F_deed_in⟩:=w1u.fn (ps:=["asked"]) X G (K1.lk1 fun _ _ _ _ _ _ _=>rfl);obtain⟨f_answer,d_answer,F_answer⟩:=w1R.fn (ps:=["sheet","asked"]) X G (K1.lk2 fun _ _ _ _ _ _ _ _=>rfl);obtain⟨f_numbers_text,d_numbers_text,F_numbers_text⟩:=w0l.fn (ps:=["numbers","sign"]) X G (K1.lk2 fun _ _ _ _ _ _ _ _=>rfl);obtain⟨f_band_text,d_band_text,F_band_text⟩:=w0N.fn (ps:=["band"]) X G (K1.lk1 fun _ _ _ _ _ _ _=>rfl);obtain⟨f__law_whole,d__law_whole,F__law_whole⟩:=w0z.fn (ps:=["_law_found"]) X G (K1.lk1 fun _ _ _ _ _ _ _=>rfl);obtain⟨f__law_together,d__law_together,F__law_together⟩:=w06.fn (ps:=["_law_right","_law_up"]) X G (K1.lk2 fun _ _ _ _ _ _ _ _=>rfl);obtain⟨f__law_mixed_sheet,d__law_mixed_sheet,F__law_mixed_sheet⟩:=w01.fn (ps:=["_law_cell","_law_many"]) X G (K1.lk2 fun _ _ _ _ _ _ _ _=>rfl);obtain⟨f__law_back,d__law_back,F__law_back⟩:=w0I.fn (ps:=["_law_row"]) X G (K1.lk1 fun _ _ _ _ _ _ _=>rfl);obtain⟨f__law_is_sheet,d__law_is_sheet,F__law_is_sheet⟩:=w07.fn (ps:=["_law_found","_law_due"]) X G (K1.lk2 fun _ _ _ _ _ _ _ _=>rfl);obtain⟨f__law_shown,d__law_shown,F__law_shown⟩:=w0y.fn (ps:=["_law_sheet"]) X G (K1.lk1 fun _ _ _ _ _ _ _=>rfl);obtain⟨f__law_sheared,d__law_sheared,F__law_sheared⟩:=w0p.fn (ps:=["_law_sheet","_law_often"]) X G (K1.lk2 fun _ _ _ _ _ _ _ _=>rfl);obtain⟨f__law_turned,d__law_turned,F__law_turned⟩:=w0r.fn (ps:=["_law_sheet","_law_often"]) X G (K1.lk2 fun _ _ _ _ _ _ _ _=>rfl);obtain⟨f__law_turns,d__law_turns,F__law_turns⟩:=w0x.fn (ps:=["_law_sheet"]) X G (K1.lk1 fun _ _ _ _ _ _ _=>rfl);obtain⟨f__law_drawing,d__law_drawing,F__law_drawing⟩:=w0a.fn (ps:=["_law_sheet"]) X G (K1.lk1 fun _ _ _ _ _ _ _=>rfl);obtain⟨f__law_plain_due,d__law_plain_due,F__law_plain_due⟩:=w02.fn (ps:=["_law_sheet","_law_word"]) X G (K1.lk2 fun _ _ _ _ _ _ _ _=>rfl);obtain⟨f__law_changed,d__law_changed,F__law_changed⟩:=w0o.fn (ps:=["_law_sheet","_law_cell"]) X G (K1.lk2 fun _ _ _ _ _ _ _ _=>rfl);obtain⟨f__law_answer_is,d__law_answer_is,F__law_answer_is⟩:=w03.fn (ps:=["_law_found","_law_due"]) X G (K1.lk2 fun _ _ _ _ _ _ _ _=>rfl);obtain⟨f__law_nothing_done,d__law_nothing_done,F__law_nothing_done⟩:=w00.fn (ps:=["_law_desk"]) X G (K1.lk1 fun _ _ _ _ _ _ _=>rfl);obtain⟨f__law_row_holds,d__law_row_holds,F__law_row_holds⟩:=w04.fn (ps:=["_law_desk","_law_states","_law_cell"]) X G (K1.lk3 fun _ _ _ _ _ _ _ _ _=>rfl);obtain⟨f__law_lies,d__law_lies,F__law_lies⟩:=w0Q.fn (ps:=["_law_desk","_law_states"]) X G (K1.lk2 fun _ _ _ _ _ _ _ _=>rfl);obtain⟨fL,dL,FL,aL,kV,doc,pm,an,cdv,ct,eL⟩:=w2I;have bL:=FL.binds (ps:=["_law_script"]) (K1.lk1 fun _ _ _ _ _ _ _=>rfl);have e:=hfa.symm.trans (Y11 X G aL);cases e;refine⟨dL,fun s v=>?_,fun base _ _=>?_⟩
 ·subst eL;exact .of_eq rfl
 ·have F_law:Fn K mg "law" TN ["_law_script"] fa dL:=⟨FL,bL,Y11 X G aL⟩;have hkv:=ZiQ w1S w27 w1P w1M w1T w1H w1C w1L w1x (v5:=w22) (v9:=w1W) (v11:=w1l) (v12:=w1e) (v13:=w18) (v14:=w1c);have w2o:=Zdi (P:=l.prog) (w:=w) (base:=base) T F__law_whole;have w2z:=ZeM (P:=l.prog) (w:=w) (base:=base) T F_size;have w2u:=Zey (P:=l.prog) (w:=w) (base:=base) T F_is_square F_is_whole;have w1f:=Z9H (P:=l.prog) (w:=w) (base:=base) T F_back_row;have w2w:=ZeX T F_has_each_once F_is_square w2u;have w1h:=Z9K T w0e F_checked_rows F_has_each_once w2w;have w2j:=ZdC F_step_rows F_back_row w1f;have w2b:=ZdL T F_paths_from F_step_rows w2j;have w1I:=Zbn T F_groups_of F_size w2z F_paths_from w2b;have w1j:=Z9w T F_sheet_of F_checked_rows w1h F_groups_of w1I;have w1r:=Z9W (P:=l.prog) (w:=w) (base:=base) w2a F_signs_of;have w1X:=ZbW (P:=l.prog) (w:=w) (base:=base) T w2a F_is_word;have w23:=ZaK T F_is_pair F_is_word w1X;have w0G:=Z7b (P:=l.prog) (w:=w) (base:=base) w2a F_squares_of;have w2k:=Zg1 F_shown F_signs_of w1r;have w2D:=ZeG F_read F_is_pair w23 F_squares_of w0G F_sheet_of w1j;have w2x:=ZeR F_turn_row F_back_row w1f;have w2J:=ZeO (P:=l.prog) (w:=w) (base:=base) F_cycle_from;have w25:=Zbp T T_min F_cycles F_cycle_from w2J;have w1w:=Z9r F_corners F_turn_row w2x F_cycles w25;have w2r:=ZcA T F_turns F_corners w1w;have w1Q:=Zcj T F_counts F_size w2z F_corners w1w;have w2l:=ZdH T F_rough_squares F_corners w1w;have w1n:=Z9s T F_borders F_rough_squares w2l;have w2t:=ZiD F_rows F_cycles w25;have w3u:=ZjG (P:=l.prog) (w:=w) (base:=base) T w2P F_has_some;have w3i:=Zis (P:=l.prog) (w:=w) (base:=base) T F_above_all;have w3W:=ZiJ (P:=l.prog) (w:=w) (base:=base) T w2P F_has_shift;have w3z:=Zj3 T F_band_from F_above_all w3i F_has_some w3u F_has_shift w3W;have w49:=Ziu T F_bands F_borders w1n F_rows w2t F_has_some w3u F_band_from w3z;have w4b:=ZiU (P:=l.prog) (w:=w) (base:=base) w2a F_between;have w2F:=ZhJ F_drawn F_cycles w25 F_between w4b;have w30:=Ziy F_mirrored F_back_row w1f;have w2O:=Zg4 F_turned F_back_row w1f;have w3d:=Zcd F_mirrored w30 F_A0;have w44:=ZaX F_mirrored w30 F_U0;have w3M:=ZbQ (P:=l.prog) (w:=w) (base:=base) (mg:=mg) w2Y I_CS.F;have w33:=ZaT T w2Y F_cycles w25 F_S0;have w3q:=ZbP (P:=l.prog) (w:=w) (base:=base) (mg:=mg) w2U I_CT.F;have w3V:=ZbB T w2U F_turned w2O F_T0;have w42:=Ziz (P:=l.prog) (w:=w) (base:=base) F_need;have w3Y:=Zij T T_str w1p w0d F_need w42 F_number_in;have w3C:=Ziq F_need w42 F_number_in w3Y F_thing_in;have w3y:=ZjF T w2Q w2h w28 F_need w42 F_thing_in w3C F_things_in;have w37:=Zi7 (P:=l.prog) (w:=w) (base:=base) T_str F_numbers_text;have w2H:=ZgZ F_numbers_text w37 F_band_text;have w4i:=Zik F_numbers_text w37 F_turns w2r F_counts w1Q F_bands w49 F_band_text w2H F_drawn w2F F_answer;have w3R:=Zih I_CS.M w3I I_CS.b w3M I_CT.M w3f I_CT.b w3q w34 w3L w3B w3G F_deed_in;have w3D:=Zi0 F_read w2D F_sheet_in;have w4k:=ZgG w3w.cl w4h.cl w4o.cl w3x.cl F_S0 w33 F_T0 w3V F_A0 w3d F_U0 w44 F_sheet_in w3D F_deed_in w3R F_changed;have w3U:=ZiN TK_CK w0s F_read w2D I_CK.F;have w43:=Zgr (P:=l.prog) (w:=w) (base:=base) (mg:=mg) TK_CK F_K2;have w3b:=ZgQ (P:=l.prog) (w:=w) (base:=base) T TK_CK F_K3;have w3c:=Zh0 (P:=l.prog) (w:=w) (base:=base) (mg:=mg) TK_CK F_K4;have w3P:=ZgH (P:=l.prog) (w:=w) (base:=base) T w40 w3S TK_CK F_K5;have w4a:=ZgW TK_CK w17 w1g F_things_in w3y F_K4 w3c F_K5 w3P F_answer w4i F_changed w4k F_shown w2k F_K1;have w3o:=Zjw (P:=l.prog) (w:=w) (base:=base) T F__law_together;have w2Z:=ZiR T F__law_together w3o F__law_mixed_sheet;have w3T:=ZjI (P:=l.prog) (w:=w) (base:=base) T F__law_back;have w3E:=Zic T F__law_is_sheet F__law_whole w2o;have w3J:=ZhZ (P:=l.prog) (w:=w) (base:=base) F__law_shown;have w4c:=ZeE (P:=l.prog) (w:=w) (base:=base) T F__law_sheared;have w4d:=Zf6 T F__law_turned F__law_back w3T;have w3X:=Zi4 T F__law_turns F__law_back w3T;have w3F:=ZjH (P:=l.prog) (w:=w) (base:=base) T F__law_drawing;have w3e:=Zil T T_str F__law_drawing w3F F_bands w49 F__law_turns w3X F__law_plain_due;have w45:=ZjD T T_str hkv F__law_mixed_sheet w2Z F__law_shown w3J F__law_sheared w4c F__law_turned w4d F__law_back w3T F__law_changed;have w4g:=Zjt (P:=l.prog) (w:=w) (base:=base) T T_str F__law_answer_is;have w2W:=Zhs T TK_CK F_K3 w3b F_K2 w43 F__law_whole w2o F__law_is_sheet w3E F__law_lies;have w3K:=ZgE hkv TK_CK w3v w3S s0 F_K1 w4a F__law_nothing_done;have w3j:=Zj6 T hkv TK_CK F_K1 w4a F__law_answer_is w4g F__law_shown w3J F__law_nothing_done w3K F__law_changed w45 F__law_row_holds;exact Zh5 T hkv TK_CK I_CK.M w3O I_CK.b w3U F_K1 w4a F__law_answer_is w4g F__law_plain_due w3e F__law_row_holds w3j F__law_lies w2W F_law
theorem walk {l:PySem.W.OpenLaw}{q:Program}{loose:List Str}{XP:(Str->Option Value)->Heap->Prop}{YP:World->Heap->Prop}{d:DefRec}{K:Params->Y00}(hn:l.most=some 63)(hdf:d.params.defaults=[])
  (hY:∀ (w:World) (h:Heap),YP w h->(K w.params).In h)
  (F:∀ (w:World) (mg:Str->Option Value) (fa:Addr) (h:Heap),(K w.params).In h->h.Ns mainGlobals mg->mg d.name=some (.ref fa)->
   ∃ fd:FuncData,(∀ (s:Shared) (u:Value),BindsTo s fd ⟨[u],[]⟩ [("_law_script",u)])/\∀ base:Heap,(K w.params).In base->base.Ns mainGlobals mg->Z6 l.prog w (K w.params) mg base CX0 14 fa fd ["_law_script"] (Sn (K w.params))) :
  PySem.W.WalkO q loose XP YP l.row.toRowW d [] (fun f vs=>PySem.call f vs):=
 L2.Zfl (n:=63) (k:=14) (x:="_law_script") (CX:=fun _=>CX0) (sp:=fun w=>Sn (K w.params)) hn (by decide) hdf ⟨rfl,by decide,by decide⟩ hY F (fun _ _ a ns hl _ hS=>⟨a,ns,rfl,hS,fun _=>rfl⟩) fun _ _ _ _ _ z=>z
end K1
open PySem PySem.W PyProof.Rows
set_option maxRecDepth 100000 in
set_option maxHeartbeats 0 in
theorem PySem.Challenge.cw_squaresheet_k94_desk_rows_holds : PySem.Challenge.rw_squaresheet_k94_desk_rows.Holds := by
 refine hd94 ?_
 k_fill
 refine K1.walk (l:=PySem.Challenge.rw_squaresheet_k94_desk_rows) rfl rfl (fun w h Y=>PySem.W.kIn_of Y) ?F
 case F=>
  intro w mg fa h KX G hmg;have w12:K1.Raw (L2.KOf KX) "sheet_of" K1.UI:=by
   dsimp only [L2.KOf];refine' K1.Zz ?a ?l ?c ?k
   (case a=>k_is);(case l=>k_is);(case c=>k_is);(case k=>k_is)
  have w2E:K1.Raw (L2.KOf KX) "size" K1.Vj:=by
   dsimp only [L2.KOf];refine' K1.Zz ?a ?l ?c ?k
   (case a=>k_is);(case l=>k_is);(case c=>k_is);(case k=>k_is)
  have w0X:K1.Raw (L2.KOf KX) "back_row" K1.W1:=by
   dsimp only [L2.KOf];refine' K1.Zz ?a ?l ?c ?k
   (case a=>k_is);(case l=>k_is);(case c=>k_is);(case k=>k_is)
  have w0m:K1.Raw (L2.KOf KX) "checked_rows" K1.UH:=by
   dsimp only [L2.KOf];refine' K1.Zz ?a ?l ?c ?k
   (case a=>k_is);(case l=>k_is);(case c=>k_is);(case k=>k_is)
  have w05:K1.Raw (L2.KOf KX) "has_each_once" K1.Vh:=by
   dsimp only [L2.KOf];refine' K1.Zz ?a ?l ?c ?k
   (case a=>k_is);(case l=>k_is);(case c=>k_is);(case k=>k_is)
  have w0W:K1.Raw (L2.KOf KX) "is_whole" K1.UR:=by
   dsimp only [L2.KOf];refine' K1.Zz ?a ?l ?c ?k
   (case a=>k_is);(case l=>k_is);(case c=>k_is);(case k=>k_is)
  have w0M:K1.Raw (L2.KOf KX) "is_square" K1.T3:=by
   dsimp only [L2.KOf];refine' K1.Zz ?a ?l ?c ?k
   (case a=>k_is);(case l=>k_is);(case c=>k_is);(case k=>k_is)
  have w0P:K1.Raw (L2.KOf KX) "groups_of" K1.Uv:=by
   dsimp only [L2.KOf];refine' K1.Zz ?a ?l ?c ?k
   (case a=>k_is);(case l=>k_is);(case c=>k_is);(case k=>k_is)
  have w0E:K1.Raw (L2.KOf KX) "step_rows" K1.Ua:=by
   dsimp only [L2.KOf];refine' K1.Zz ?a ?l ?c ?k
   (case a=>k_is);(case l=>k_is);(case c=>k_is);(case k=>k_is)
  have w0A:K1.Raw (L2.KOf KX) "paths_from" K1.Um:=by
   dsimp only [L2.KOf];refine' K1.Zz ?a ?l ?c ?k
   (case a=>k_is);(case l=>k_is);(case c=>k_is);(case k=>k_is)
  have w0u:K1.Raw (L2.KOf KX) "cycle_from" K1.U0:=by
   dsimp only [L2.KOf];refine' K1.Zz ?a ?l ?c ?k
   (case a=>k_is);(case l=>k_is);(case c=>k_is);(case k=>k_is)
  have w1U:K1.Raw (L2.KOf KX) "cycles" K1.XF:=by
   dsimp only [L2.KOf];refine' K1.Zz ?a ?l ?c ?k
   (case a=>k_is);(case l=>k_is);(case c=>k_is);(case k=>k_is)
  have w1a:K1.Raw (L2.KOf KX) "corners" K1.WD:=by
   dsimp only [L2.KOf];refine' K1.Zz ?a ?l ?c ?k
   (case a=>k_is);(case l=>k_is);(case c=>k_is);(case k=>k_is)
  have w2g:K1.Raw (L2.KOf KX) "turns" K1.VB:=by
   dsimp only [L2.KOf];refine' K1.Zz ?a ?l ?c ?k
   (case a=>k_is);(case l=>k_is);(case c=>k_is);(case k=>k_is)
  have w21:K1.Raw (L2.KOf KX) "counts" K1.UB:=by
   dsimp only [L2.KOf];refine' K1.Zz ?a ?l ?c ?k
   (case a=>k_is);(case l=>k_is);(case c=>k_is);(case k=>k_is)
  have w14:K1.Raw (L2.KOf KX) "turn_row" K1.VU:=by
   dsimp only [L2.KOf];refine' K1.Zz ?a ?l ?c ?k
   (case a=>k_is);(case l=>k_is);(case c=>k_is);(case k=>k_is)
  have w08:K1.Raw (L2.KOf KX) "rough_squares" K1.U6:=by
   dsimp only [L2.KOf];refine' K1.Zz ?a ?l ?c ?k
   (case a=>k_is);(case l=>k_is);(case c=>k_is);(case k=>k_is)
  have w2s:K1.Raw (L2.KOf KX) "rows" K1.T2:=by
   dsimp only [L2.KOf];refine' K1.Zz ?a ?l ?c ?k
   (case a=>k_is);(case l=>k_is);(case c=>k_is);(case k=>k_is)
  have w1q:K1.Raw (L2.KOf KX) "borders" K1.UT:=by
   dsimp only [L2.KOf];refine' K1.Zz ?a ?l ?c ?k
   (case a=>k_is);(case l=>k_is);(case c=>k_is);(case k=>k_is)
  have w2n:K1.Raw (L2.KOf KX) "bands" K1.WX:=by
   dsimp only [L2.KOf];refine' K1.Zz ?a ?l ?c ?k
   (case a=>k_is);(case l=>k_is);(case c=>k_is);(case k=>k_is)
  have w10:K1.Raw (L2.KOf KX) "has_some" K1.WC:=by
   dsimp only [L2.KOf];refine' K1.Zz ?a ?l ?c ?k
   (case a=>k_is);(case l=>k_is);(case c=>k_is);(case k=>k_is)
  have w0O:K1.Raw (L2.KOf KX) "band_from" K1.V2:=by
   dsimp only [L2.KOf];refine' K1.Zz ?a ?l ?c ?k
   (case a=>k_is);(case l=>k_is);(case c=>k_is);(case k=>k_is)
  have w0F:K1.Raw (L2.KOf KX) "above_all" K1.V4:=by
   dsimp only [L2.KOf];refine' K1.Zz ?a ?l ?c ?k
   (case a=>k_is);(case l=>k_is);(case c=>k_is);(case k=>k_is)
  have w0J:K1.Raw (L2.KOf KX) "has_shift" K1.V3:=by
   dsimp only [L2.KOf];refine' K1.Zz ?a ?l ?c ?k
   (case a=>k_is);(case l=>k_is);(case c=>k_is);(case k=>k_is)
  have w24:K1.Raw (L2.KOf KX) "turned" K1.UA:=by
   dsimp only [L2.KOf];refine' K1.Zz ?a ?l ?c ?k
   (case a=>k_is);(case l=>k_is);(case c=>k_is);(case k=>k_is)
  have w0V:L2.TX (L2.KOf KX) "mirrored" K1.V0 ["sheet","across"] (.bl true):=by
   dsimp only [L2.KOf];refine' L2.ZdI ?a ?l ?c ?k ?t ?r ?b2 ?b1
   (case a=>k_is);(case l=>k_is);(case c=>k_is);(case k=>k_is);(case t=>k_is);(case r=>exact rfl)
   (case b2=>intro s hK y0 y1;exact PySem.W.binds_K hK rfl (by k_is) rfl rfl rfl);(case b1=>intro s hK y0;exact PySem.W.binds_K hK rfl (by k_is) rfl rfl rfl)
  have w2p:K1.Raw (L2.KOf KX) "shown" K1.Ug:=by
   dsimp only [L2.KOf];refine' K1.Zz ?a ?l ?c ?k
   (case a=>k_is);(case l=>k_is);(case c=>k_is);(case k=>k_is)
  have w2A:K1.Raw (L2.KOf KX) "read" K1.Vg:=by
   dsimp only [L2.KOf];refine' K1.Zz ?a ?l ?c ?k
   (case a=>k_is);(case l=>k_is);(case c=>k_is);(case k=>k_is)
  have w16:K1.Raw (L2.KOf KX) "is_pair" K1.Us:=by
   dsimp only [L2.KOf];refine' K1.Zz ?a ?l ?c ?k
   (case a=>k_is);(case l=>k_is);(case c=>k_is);(case k=>k_is)
  have w1t:K1.Raw (L2.KOf KX) "is_word" K1.VG:=by
   dsimp only [L2.KOf];refine' K1.Zz ?a ?l ?c ?k
   (case a=>k_is);(case l=>k_is);(case c=>k_is);(case k=>k_is)
  have w13:K1.Raw (L2.KOf KX) "signs_of" K1.VP:=by
   dsimp only [L2.KOf];refine' K1.Zz ?a ?l ?c ?k
   (case a=>k_is);(case l=>k_is);(case c=>k_is);(case k=>k_is)
  have w0v:K1.Raw (L2.KOf KX) "squares_of" K1.V5:=by
   dsimp only [L2.KOf];refine' K1.Zz ?a ?l ?c ?k
   (case a=>k_is);(case l=>k_is);(case c=>k_is);(case k=>k_is)
  have w0H:K1.Raw (L2.KOf KX) "things_in" K1.VZ:=by
   dsimp only [L2.KOf];refine' K1.Zz ?a ?l ?c ?k
   (case a=>k_is);(case l=>k_is);(case c=>k_is);(case k=>k_is)
  have w2v:K1.Raw (L2.KOf KX) "need" K1.Wl:=by
   dsimp only [L2.KOf];refine' K1.Zz ?a ?l ?c ?k
   (case a=>k_is);(case l=>k_is);(case c=>k_is);(case k=>k_is)
  have w0S:K1.Raw (L2.KOf KX) "thing_in" K1.UP:=by
   dsimp only [L2.KOf];refine' K1.Zz ?a ?l ?c ?k
   (case a=>k_is);(case l=>k_is);(case c=>k_is);(case k=>k_is)
  have w0K:K1.Raw (L2.KOf KX) "number_in" K1.V1:=by
   dsimp only [L2.KOf];refine' K1.Zz ?a ?l ?c ?k
   (case a=>k_is);(case l=>k_is);(case c=>k_is);(case k=>k_is)
  have w2q:K1.Raw (L2.KOf KX) "drawn" K1.Vs:=by
   dsimp only [L2.KOf];refine' K1.Zz ?a ?l ?c ?k
   (case a=>k_is);(case l=>k_is);(case c=>k_is);(case k=>k_is)
  have w1s:K1.Raw (L2.KOf KX) "between" K1.VX:=by
   dsimp only [L2.KOf];refine' K1.Zz ?a ?l ?c ?k
   (case a=>k_is);(case l=>k_is);(case c=>k_is);(case k=>k_is)
  have w1b:K1.Raw (L2.KOf KX) "changed" K1.UJ:=by
   dsimp only [L2.KOf];refine' K1.Zz ?a ?l ?c ?k
   (case a=>k_is);(case l=>k_is);(case c=>k_is);(case k=>k_is)
  have w11:K1.Raw (L2.KOf KX) "sheet_in" K1.UG:=by
   dsimp only [L2.KOf];refine' K1.Zz ?a ?l ?c ?k
   (case a=>k_is);(case l=>k_is);(case c=>k_is);(case k=>k_is)
  have w1u:K1.Raw (L2.KOf KX) "deed_in" K1.Uw:=by
   dsimp only [L2.KOf];refine' K1.Zz ?a ?l ?c ?k
   (case a=>k_is);(case l=>k_is);(case c=>k_is);(case k=>k_is)
  have w1R:K1.Raw (L2.KOf KX) "answer" K1.VO:=by
   dsimp only [L2.KOf];refine' K1.Zz ?a ?l ?c ?k
   (case a=>k_is);(case l=>k_is);(case c=>k_is);(case k=>k_is)
  have w0l:K1.Raw (L2.KOf KX) "numbers_text" K1.WL:=by
   dsimp only [L2.KOf];refine' K1.Zz ?a ?l ?c ?k
   (case a=>k_is);(case l=>k_is);(case c=>k_is);(case k=>k_is)
  have w0N:K1.Raw (L2.KOf KX) "band_text" K1.UV:=by
   dsimp only [L2.KOf];refine' K1.Zz ?a ?l ?c ?k
   (case a=>k_is);(case l=>k_is);(case c=>k_is);(case k=>k_is)
  have w0z:K1.Raw (L2.KOf KX) "_law_whole" K1.Vz:=by
   dsimp only [L2.KOf];refine' K1.Zz ?a ?l ?c ?k
   (case a=>k_is);(case l=>k_is);(case c=>k_is);(case k=>k_is)
  have w06:K1.Raw (L2.KOf KX) "_law_together" K1.WH:=by
   dsimp only [L2.KOf];refine' K1.Zz ?a ?l ?c ?k
   (case a=>k_is);(case l=>k_is);(case c=>k_is);(case k=>k_is)
  have w01:K1.Raw (L2.KOf KX) "_law_mixed_sheet" K1.U5:=by
   dsimp only [L2.KOf];refine' K1.Zz ?a ?l ?c ?k
   (case a=>k_is);(case l=>k_is);(case c=>k_is);(case k=>k_is)
  have w0I:K1.Raw (L2.KOf KX) "_law_back" K1.Wm:=by
   dsimp only [L2.KOf];refine' K1.Zz ?a ?l ?c ?k
   (case a=>k_is);(case l=>k_is);(case c=>k_is);(case k=>k_is)
  have w07:K1.Raw (L2.KOf KX) "_law_is_sheet" K1.VS:=by
   dsimp only [L2.KOf];refine' K1.Zz ?a ?l ?c ?k
   (case a=>k_is);(case l=>k_is);(case c=>k_is);(case k=>k_is)
  have w0y:K1.Raw (L2.KOf KX) "_law_shown" K1.Xl:=by
   dsimp only [L2.KOf];refine' K1.Zz ?a ?l ?c ?k
   (case a=>k_is);(case l=>k_is);(case c=>k_is);(case k=>k_is)
  have w0p:K1.Raw (L2.KOf KX) "_law_sheared" K1.UZ:=by
   dsimp only [L2.KOf];refine' K1.Zz ?a ?l ?c ?k
   (case a=>k_is);(case l=>k_is);(case c=>k_is);(case k=>k_is)
  have w0r:K1.Raw (L2.KOf KX) "_law_turned" K1.UL:=by
   dsimp only [L2.KOf];refine' K1.Zz ?a ?l ?c ?k
   (case a=>k_is);(case l=>k_is);(case c=>k_is);(case k=>k_is)
  have w0x:K1.Raw (L2.KOf KX) "_law_turns" K1.VI:=by
   dsimp only [L2.KOf];refine' K1.Zz ?a ?l ?c ?k
   (case a=>k_is);(case l=>k_is);(case c=>k_is);(case k=>k_is)
  have w0a:K1.Raw (L2.KOf KX) "_law_drawing" K1.W9:=by
   dsimp only [L2.KOf];refine' K1.Zz ?a ?l ?c ?k
   (case a=>k_is);(case l=>k_is);(case c=>k_is);(case k=>k_is)
  have w02:K1.Raw (L2.KOf KX) "_law_plain_due" K1.WK:=by
   dsimp only [L2.KOf];refine' K1.Zz ?a ?l ?c ?k
   (case a=>k_is);(case l=>k_is);(case c=>k_is);(case k=>k_is)
  have w0o:K1.Raw (L2.KOf KX) "_law_changed" K1.UX:=by
   dsimp only [L2.KOf];refine' K1.Zz ?a ?l ?c ?k
   (case a=>k_is);(case l=>k_is);(case c=>k_is);(case k=>k_is)
  have w03:K1.Raw (L2.KOf KX) "_law_answer_is" K1.WJ:=by
   dsimp only [L2.KOf];refine' K1.Zz ?a ?l ?c ?k
   (case a=>k_is);(case l=>k_is);(case c=>k_is);(case k=>k_is)
  have w00:K1.Raw (L2.KOf KX) "_law_nothing_done" K1.U7:=by
   dsimp only [L2.KOf];refine' K1.Zz ?a ?l ?c ?k
   (case a=>k_is);(case l=>k_is);(case c=>k_is);(case k=>k_is)
  have w04:K1.Raw (L2.KOf KX) "_law_row_holds" K1.U1:=by
   dsimp only [L2.KOf];refine' K1.Zz ?a ?l ?c ?k
   (case a=>k_is);(case l=>k_is);(case c=>k_is);(case k=>k_is)
  have w0Q:K1.Raw (L2.KOf KX) "_law_lies" K1.Ue:=by
   dsimp only [L2.KOf];refine' K1.Zz ?a ?l ?c ?k
   (case a=>k_is);(case l=>k_is);(case c=>k_is);(case k=>k_is)
  have w2I:K1.Raw (L2.KOf KX) "law" K1.TN:=by
   dsimp only [L2.KOf];refine' K1.Zz ?a ?l ?c ?k
   (case a=>k_is);(case l=>k_is);(case c=>k_is);(case k=>k_is)
  refine' K1.Zgl KX G hmg w12 w2E w0X w0m w05 w0W w0M w0P w0E w0A w0u w1U w1a w2g w21 w14 w08 w2s w1q w2n w10 w0O w0F w0J w24 w0V w2p w2A w16 w1t w13 w0v w0H w2v w0S w0K w2q w1s w1b w11 w1u w1R w0l w0N w0z w06 w01 w0I w07 w0y w0p w0r w0x w0a w02 w0o w03 w00 w04 w0Q w2I ?w09 ?w0h ?w0R ?w0T ?w2c ?w1i ?w0b ?w0B ?w0f ?w0q ?w3a ?w3v ?w40 ?s0 ?w35 ?w46 ?w3s ?w3N ?w31 ?w4j ?w36 ?w3m ?w3Q ?w4n ?w3t ?w48 ?w3Z ?w3k ?w4f ?w2N ?w2T ?w34 ?w3B ?w4e ?w41 ?w4l ?w32 ?w47 ?w4m ?w3H ?w3g ?w39 ?w3l ?w3p ?w2f ?w2d ?w19 ?w1d ?w1G ?w1V ?w1N ?w1A ?w1z ?w1D ?w1Y ?w1E ?w1m ?w2X ?w29 ?w2B ?w2e ?w0C ?w2G ?w2C ?w2R ?w2K ?w26 ?w0L ?w2V ?w2M ?w2S ?w2L
  (case w09=>k_is);(case w0h=>k_is);(case w0R=>k_is);(case w0T=>k_is);(case w2c=>k_is);(case w1i=>k_is);(case w0b=>k_is);(case w0B=>k_is);(case w0f=>k_is);(case w0q=>k_is);(case w3a=>k_is);(case w3v=>(refine' ⟨?_,?_,?_,?_,?_,?_,?_,?_,?_⟩<;>k_is));(case w40=>(unfold L2.Wh;k_exc));(case s0=>k_is);(case w35=>k_is);(case w46=>(refine' ⟨?_,?_,?_,?_,?_,?_,?_,?_,?_,?_,?_⟩<;>k_is));(case w3s=>k_is);(case w3N=>(refine' ⟨?_,?_,?_,?_,?_,?_,?_,?_,?_,?_,?_⟩<;>k_is));(case w31=>k_is);(case w4j=>(refine' ⟨?_,?_,?_,?_,?_,?_,?_,?_,?_,?_,?_⟩<;>k_is));(case w36=>k_is);(case w3m=>(refine' ⟨?_,?_,?_,?_,?_,?_,?_,?_,?_,?_,?_⟩<;>k_is));(case w3Q=>k_is);(case w4n=>(refine' ⟨?_,?_,?_,?_,?_,?_,?_,?_,?_,?_,?_⟩<;>k_is));(case w3t=>k_is);(case w48=>(refine' ⟨?_,?_,?_,?_,?_,?_,?_,?_,?_,?_,?_⟩<;>k_is));(case w3Z=>(refine' K1.Zev ?mk ?kc ?a ?i ?l ?c ?k ?b;(case mk=>k_is);(case kc=>k_is);(case a=>k_is);(case i=>k_is);(case l=>k_is);(case c=>k_is);(case k=>k_is);(case b=>exact (K1.lk2 fun _ _ _ _ _ _ _ _=>rfl))));(case w3k=>(refine' K1.Zev ?mk ?kc ?a ?i ?l ?c ?k ?b;(case mk=>k_is);(case kc=>k_is);(case a=>k_is);(case i=>k_is);(case l=>k_is);(case c=>k_is);(case k=>k_is);(case b=>exact (K1.lk2 fun _ _ _ _ _ _ _ _=>rfl))));(case w4f=>(refine' K1.Zfy ?mk ?kc ?a ?i ?l ?c ?k ?b;(case mk=>k_is);(case kc=>k_is);(case a=>k_is);(case i=>k_is);(case l=>k_is);(case c=>k_is);(case k=>k_is);(case b=>exact (K1.lk1 fun _ _ _ _ _ _ _=>rfl))));(case w2N=>k_is);(case w2T=>k_is);(case w34=>(refine' ⟨?_,?_,?_⟩<;>k_is));(case w3B=>(refine' ⟨?_,?_,?_⟩<;>k_is));(case w4e=>k_is);(case w41=>k_is);(case w4l=>(refine' K1.Xk ?a ?i ?l ?c ?k;(case a=>k_is);(case i=>k_is);(case l=>k_is);(case c=>k_is);(case k=>k_is)));(case w32=>(refine' K1.Xk ?a ?i ?l ?c ?k;(case a=>k_is);(case i=>k_is);(case l=>k_is);(case c=>k_is);(case k=>k_is)));(case w47=>(refine' K1.Xk ?a ?i ?l ?c ?k;(case a=>k_is);(case i=>k_is);(case l=>k_is);(case c=>k_is);(case k=>k_is)));(case w4m=>(refine' K1.Xk ?a ?i ?l ?c ?k;(case a=>k_is);(case i=>k_is);(case l=>k_is);(case c=>k_is);(case k=>k_is)));(case w3H=>(refine' K1.Xk ?a ?i ?l ?c ?k;(case a=>k_is);(case i=>k_is);(case l=>k_is);(case c=>k_is);(case k=>k_is)));(case w3g=>(refine' K1.Xk ?a ?i ?l ?c ?k;(case a=>k_is);(case i=>k_is);(case l=>k_is);(case c=>k_is);(case k=>k_is)));(case w39=>(refine' K1.Xk ?a ?i ?l ?c ?k;(case a=>k_is);(case i=>k_is);(case l=>k_is);(case c=>k_is);(case k=>k_is)));(case w3l=>(refine' K1.Xk ?a ?i ?l ?c ?k;(case a=>k_is);(case i=>k_is);(case l=>k_is);(case c=>k_is);(case k=>k_is)));(case w3p=>(refine' K1.Xk ?a ?i ?l ?c ?k;(case a=>k_is);(case i=>k_is);(case l=>k_is);(case c=>k_is);(case k=>k_is)));(case w2f=>k_is);(case w2d=>(refine' L2.Zjr ?hs ?l ?e1 ?e2 ?e3 ?e4 ?e5 ?e6 ?e7 ?e8 ?e9 ?e10 ?e11 ?e12 ?e13 ?e14 ?e15 ?nd;(case hs=>decide);(case l=>k_is);(case e1=>rfl);(case e2=>rfl);(case e3=>rfl);(case e4=>rfl);(case e5=>rfl);(case e6=>rfl);(case e7=>rfl);(case e8=>rfl);(case e9=>rfl);(case e10=>rfl);(case e11=>rfl);(case e12=>rfl);(case e13=>rfl);(case e14=>rfl);(case e15=>rfl);(case nd=>decide +kernel)));(case w19=>k_is);(case w1d=>(refine' L2.tts4 ?l;(case l=>k_is)));(case w1G=>(refine' L2.tts2 ?l;(case l=>k_is)));(case w1V=>(refine' L2.ZjB ?l;(case l=>k_is)));(case w1N=>(refine' L2.ZjB ?l;(case l=>k_is)));(case w1A=>(refine' L2.ZjB ?l;(case l=>k_is)));(case w1z=>(refine' L2.TU ?l;(case l=>k_is)));(case w1D=>(refine' L2.TU ?l;(case l=>k_is)));(case w1Y=>(refine' L2.TU ?l;(case l=>k_is)));(case w1E=>(refine' L2.TU ?l;(case l=>k_is)));(case w1m=>(refine' L2.TU ?l;(case l=>k_is)));(case w2X=>k_is);(case w29=>k_is);(case w2B=>k_is);(case w2e=>k_is);(case w0C=>k_is);(case w2G=>k_is);(case w2C=>k_is);(case w2R=>k_is);(case w2K=>k_is);(case w26=>k_is);(case w0L=>k_is);(case w2V=>k_is);(case w2M=>k_is);(case w2S=>k_is);(case w2L=>k_is)
#print axioms PySem.Challenge.cw_squaresheet_k94_desk_rows_holds
