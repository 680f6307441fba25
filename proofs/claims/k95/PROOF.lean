import PyProof.Rows.All
import KE.KSortTup
import KE.KDictSum
import KE.KDictOf
import KE.KIntText
import KE.KFromBytes
import KE.KIsAll
import KE.KPairComp
import KE.KRevIter
import Wide.FinOn
import PySem.Challenge.RW_squaresheet_k95_desk_refused
set_option Elab.async false
set_option linter.all false
set_option maxRecDepth 100000
namespace PySem.W.Fast
def tw17178584649510885719:=0
def tw7884708241132264812:=0
def tw15655291831242258382:=0
def tw17033426294456721832:=0
def tw6424022411379837351:=0
def tw1996266861636190864:=0
def tw8566320405777832860:=0
def tw15153520402112241437:=0
def tw6120677589898950937:=0
def tw9534651142562155402:=0
def tw1392605609901713146:=0
def tw18420938605735719387:=0
def tw16025146795482759774:=0
def tw14439348616938282038:=0
def tw12995793945963922415:=0
def tw12962790252289239938:=0
def tw18042812828466543141:=0
def tw13043562507307944587:=0
def tw14133446614449004212:=0
def tw15926661873164639157:=0
def tw10111213473437946279:=0
def tw1300284197131799841:=0
def tw5970691670612516039:=0
def tw6660152136310981162:=0
def tw12959677941913577956:=0
def tw7636266989857775951:=0
def tw12486773639464454643:=0
def tw811796541687914328:=0
def tw6254230058099536665:=0
def tw2002297341339636380:=0
def tw677209585456294598:=0
def tw10168303494469197422:=0
def tw16567531009494508593:=0
def tw13556770492140509930:=0
def tw15742676244907085545:=0
def tw8183259645680732185:=0
def tw2167377053887376439:=0
def tw12381666048805958137:=0
def tw9704948491661819182:=0
def tw6832113699813137944:=0
def tw11340513673130471839:=0
def tw12081372358784159792:=0
def tw4135693913980223743:=0
def tw3079498266177788285:=0
def tw15580666449706832932:=0
def tw8593468422923661565:=0
def tw4543376916085996079:=0
def tw9891047120629287740:=0
def tw18343784845699409756:=0
def tw2663817160684694485:=0
def tw40181199821205060:=0
def tw7077275632432875433:=0
def tw5646803205334898257:=0
def tw17805533322080038461:=0
def tw16193055509758224949:=0
def tw10288745139722683152:=0
def tw755804923830537447:=0
def tw18350184747452389987:=0
def tw5208023933498984825:=0
def tw4976553013957215773:=0
def tw11916676508603992863:=0
def tw16112009558741716443:=0
def tw15590861990007586993:=0
def tw10592143158834307579:=0
def tw10697796529324641399:=0
def tw15695147271707180298:=0
def tw15616609701311829090:=0
def tw14510646288758459671:=0
def tw18294864743879606115:=0
def tw1076755796250664711:=0
def tw5176745772791556574:=0
def tw2049519021120758262:=0
def tw11057458822016690784:=0
def tw9512796202159000372:=0
def tw11320213556034814155:=0
def tw9881155860998090278:=0
def tw13411722446460457649:=0
def tw1650246571504006404:=0
def tw9303005583438177061:=0
def tw4326172803084079657:=0
def tw8238496137910956605:=0
def tw9487839672088141196:=0
def tw6700500156628513932:=0
def tw16270505614228835497:=0
def tw4279137305725328320:=0
def tw10416602286318944939:=0
def tw16328541065994739343:=0
def tw7835189524098092625:=0
def tw187966239173986850:=0
def tw6213504320688464526:=0
def tw12661003602244078988:=0
def tw15255323328524582665:=0
def tw7172459771018059011:=0
def tw4479876036127411879:=0
def tw10110716844439481067:=0
def tw1256941749478693223:=0
def tw11316822812193969956:=0
def tw663366982918581273:=0
def tw13045268024210870312:=0
def tw15578041493400617787:=0
def tw837204716255319319:=0
def tw17190651019967892811:=0
def tw3619347000164350345:=0
def tw10659646783644214405:=0
def tw118885832584396518:=0
def tw12169338931653795921:=0
def tw9926674838301740506:=0
def tw15460144643317923654:=0
def tw18432573195423652002:=0
def tw3531476599496763870:=0
def tw11442052397360392433:=0
def tw15593489580116063623:=0
def tw2931488993849451477:=0
def tw12151021541414976314:=0
def tw8693684553203874200:=0
def tw6911084162351688333:=0
def tw13396982802828862203:=0
def tw9527110977707260124:=0
def tw902201094162213941:=0
def tw10857915415156682206:=0
def tw2290244821113022017:=0
def tw4712746331560844307:=0
def tw4440739164260290541:=0
def tw10333462195478291401:=0
def tw11960425382192885543:=0
def tw14890804947442331966:=0
def tw15881232805212396929:=0
def tw13267909312328084288:=0
def tw16530344464039887871:=0
def tw16428697510590418830:=0
def tw2682758459020341583:=0
def tw1739522137327982287:=0
def tw8728782951653318878:=0
def tw9256019618547078538:=0
def tw11273760069599477278:=0
def tw2485806276371701516:=0
def tw9959116362825903347:=0
def tw13278069994010765597:=0
def tw10971756883212895593:=0
def tw9380080806647615743:=0
def tw16177665880362594381:=0
def tw4785309268924563561:=0
def tw7368117500135927868:=0
def tw1470301043143955836:=0
def tw2747172021419429185:=0
def tw14087279224638908313:=0
def tw11309371938951651483:=0
def tw15470043779384874803:=0
def tw10690405050050044556:=0
def tw2474670218598931264:=0
def tw9337222000241694467:=0
def tw8111543485387758638:=0
def tw14079203716130855979:=0
def tw11962119035932086741:=0
def tw9958563324235361011:=0
def tw16158699392473937134:=0
def tw5037691932548921766:=0
def tw9024411575705740271:=0
def tw17729252880536943957:=0
def tw7470017901470169747:=0
def tw3403033166682539546:=0
def tw6063598487960172492:=0
def tw6227359515767231016:=0
def tw9970455884650346690:=0
def tw4233577813724579523:=0
def tw8482277471157978370:=0
def tw3535084767130186731:=0
def tw11673594858699444889:=0
def tw3170617030716848272:=0
def tw11067472884638200435:=0
def tw7991105995686867393:=0
def tw10377863087280700725:=0
def tw9336776629275302344:=0
def tw13852600647140402695:=0
def tw14980733311483924290:=0
def tw1080966679784217383:=0
def tw13577358222297644427:=0
def tw5448499362724670967:=0
def tw5371536254074270727:=0
def tw5856843689163236058:=0
def tw13390879718450271423:=0
def tw582590661321257176:=0
def tw11682880371066898644:=0
def tw4137629566879471223:=0
def tw5478349701700480260:=0
def tw768777659882340764:=0
def tw5084847184214623391:=0
def tw4742451931346506333:=0
def tw13055019670141267782:=0
def tw2282763343840330045:=0
def tw738942155928557746:=0
def tw5919876768349657486:=0
def tw4789775284382486282:=0
def tw14483587511943689634:=0
def tw5704845955826882189:=0
def tw16425602144188613301:=0
def tw4712314450033988565:=0
def tw11674629671778457512:=0
def tw4860979339491584141:=0
def tw5298325427186988612:=0
def tw15252859831589357667:=0
def tw12156368628179329274:=0
def tw6479486526082477550:=0
def tw7914278737329043638:=0
def tw2072224552398949839:=0
def tw18384347626598774799:=0
def tw10775993055804234327:=0
def tw3090851978195192910:=0
def tw14483787283224245602:=0
def tw2015425743926120280:=0
def tw7284118207697703485:=0
def tw11410457857330277846:=0
def tw16434976076629978357:=0
def tw7098581569179580133:=0
def tw13373050719418006911:=0
def tw6156444048958666857:=0
def tw5029699720638395392:=0
def tw4199603589408231825:=0
def tw169750218676541039:=0
def tw12505509765906525943:=0
def tw4006196755027335702:=0
def tw8098516601309836211:=0
def tw13565484744627394918:=0
def tw7827722774694516915:=0
def tw520198115348018799:=0
def tw5457892643994654413:=0
def tw17189566343791739142:=0
def tw13383753426935371472:=0
def tw13593216650542654447:=0
def tw11889217755969015105:=0
def tw4213779673656555635:=0
def tw2397707365928781498:=0
def tw5912448747704758628:=0
def tw18388464731198858226:=0
def tw15324775670068972661:=0
def tw11630066826549708463:=0
def tw8014466178107262950:=0
def tw11890060796909166592:=0
def tw10907280757188113580:=0
def tw6261218257273300894:=0
def tw4775368273449662121:=0
def tw6489348539388477461:=0
def tw10228653811307139392:=0
def tw1792527290917944443:=0
def tw17033708334110369530:=0
def tw1919934055386599751:=0
def tw17793029750803988798:=0
def tw2025523995856403801:=0
def tw11703824495226987252:=0
def tw8998699586719348013:=0
def tw13120180092975126392:=0
def tw16217431426219668587:=0
def tw1054567563105200827:=0
def tw1989526255714453271:=0
def tw4018473299537604909:=0
def tw14136448531950393626:=0
def tw14121703177728164599:=0
def tw6604107376698977793:=0
def tw11938821474590016730:=0
def tw2757918675677573496:=0
def tw14242770856145883588:=0
def tw551539601633834468:=0
def tw7200145111537654485:=0
def tw15383829172734865732:=0
def tw14600736724535380386:=0
def tw11213889593242172312:=0
def tw13970175828808837491:=0
def tw5198122470358255162:=0
def tw6934124552286442918:=0
def tw14907388205546733377:=0
def tw10960304982486529453:=0
def tw12897429921962885114:=0
def tw8339428988860879673:=0
def tw12138052042115502435:=0
def tw4909021344826540333:=0
def tw2639235739732325496:=0
def tw1979518522766017157:=0
def tw4788897566045384680:=0
def tw12781206308114747112:=0
def tw17531353479239608947:=0
def tw15964752593201640527:=0
def tw11537622337967773874:=0
def tw3498120892255545236:=0
def tw5402859800285655915:=0
def tw16127028731541378260:=0
def tw11804402589001101135:=0
def tw15804639364540996838:=0
def tw16955848858845449305:=0
def tw335316320188881041:=0
def tw9282577300465452184:=0
def tw10821750673841293541:=0
def tw17962703341146774436:=0
def tw9768482135910204737:=0
def tw18141046398179079237:=0
def tw2924657934230283311:=0
def tw4663257177735377083:=0
def tw4324173853379178858:=0
def tw6997699663732097427:=0
def tw1701970899333965936:=0
def tw11837189919052465579:=0
def tw13817085613816406656:=0
def tw16286729704573314989:=0
def tw8231662593702816803:=0
def tw4336049233586183462:=0
def tw7188312600397362161:=0
def tw9857098757834409366:=0
def tw5865212319893397029:=0
def tw13337695872433927255:=0
def tw10440705665325235822:=0
def tw4856901733850064308:=0
def tw13542438076637284361:=0
def tw2223269373043320209:=0
def tw3264735029540633864:=0
def tw13429636685053468210:=0
def tw7768071817026188635:=0
def tw1906511554453391593:=0
def tw11753718950986055187:=0
def tw8608775105938762416:=0
def tw9052158207645006224:=0
def tw15439849410001078797:=0
def tw13126651950891075332:=0
def tw9632066962056077850:=0
def tw3850420075969986983:=0
def tw12732262877275432831:=0
def tw2188101706126618908:=0
def tw2321702501723869385:=0
def tw4455004643728321158:=0
def tw13809227460715295373:=0
def tw401068390252879635:=0
def tw5945328058921502796:=0
def tw3958302954155478426:=0
def tw12616474090529687347:=0
def tw6491551583804098404:=0
def tw16951463829671204928:=0
def tw8918773631784989698:=0
def tw10922895133817280517:=0
def tw5490197364455711408:=0
def tw5790731448655627377:=0
def tw5429159966035668282:=0
def tw2440961685155788890:=0
def tw5095665769296089012:=0
def tw17498980883531406224:=0
def tw5054267238775339379:=0
def tw1747599904107598737:=0
def tw7073354702205534480:=0
def tw10422703336605979729:=0
def tw15783542712456347422:=0
def tw16280323384899574817:=0
def tw5293294240169930350:=0
def tw8797195702518731701:=0
def tw17026423554475276630:=0
def tw17618594417320399151:=0
def tw10993112117148294069:=0
def tw8261265509009079002:=0
def tw5075304460526624023:=0
def tw5063440911339541332:=0
def tw449800481130687563:=0
def tw17109731334884485409:=0
def tw5943210684016677038:=0
def tw12781919626852546672:=0
def tw17203827437123300465:=0
def tw11769103584178826749:=0
def tw11358907383053470273:=0
def tw15778869686369871493:=0
def tw17114590452823552858:=0
def tw13533458981371013674:=0
def tw12894782604092328937:=0
def tw6636930446212319776:=0
def tw16881975690333971128:=0
def tw10885744768273462714:=0
def tw6715426151173793213:=0
def tw10144628467490217085:=0
def tw3563953099872557753:=0
def tw6613702904452814611:=0
def tw1473656663974994980:=0
def tw3433570828586334207:=0
def tw4277627560330651311:=0
def tw17738507670075049108:=0
def tw11711006780915438464:=0
def tw4505358993242127822:=0
def tw604407479263132399:=0
def tw14077478953736806934:=0
def tw598694689475947660:=0
def tw16959107900100317525:=0
def tw10609240442217743829:=0
def tw2454216134350298683:=0
def tw1258430075247485163:=0
def tw17684191856417798271:=0
def tw7853677829858828068:=0
def tw13342687725075226278:=0
def tw7173943264462863699:=0
def tw6797860101717690853:=0
def tw8233208528420467242:=0
def tw7401600057741096773:=0
def tw8783091014044569306:=0
def tw8293803763800510968:=0
def tw12709113416744866756:=0
def tw10636214964499990077:=0
def tw3928715652300877794:=0
def tw18135976689540783543:=0
def tw2998836079063492018:=0
def tw5107914132427913416:=0
def tw15612622790638882874:=0
def tw16432230335503361794:=0
def tw9003053438201859195:=0
def tw12022244264761359083:=0
def tw12005390570701169664:=0
def tw9753556272342985450:=0
def tw15615742124737395194:=0
def tw7356683321351891705:=0
def tw203549594311176181:=0
def tw7681402967059266953:=0
def tw13043526441596231540:=0
def tw163298364194666318:=0
def tw4032855806922926754:=0
def tw9355720232294103024:=0
def tw9083900802189966991:=0
def tw11087535956027460322:=0
def tw4850788261442358532:=0
def tw17659685334638773916:=0
def tw17827554620219283351:=0
def tw1371763211172198315:=0
def tw15808668927712287661:=0
def tw15125762347573811920:=0
def tw13391330155556557662:=0
def tw6912933408979309596:=0
def tw10473373787731705813:=0
def tw5349401007933235774:=0
def tw2860898125317170293:=0
def tw5754076138062008784:=0
def tw2817623026249303016:=0
def tw866878077503555698:=0
def tw5029448891568777632:=0
def tw8671472929662197403:=0
def tw16824298867510729082:=0
def tw7191202592316024264:=0
def tw6189320571576406710:=0
def tw4941794690780937269:=0
def tw16729162464481560392:=0
def tw14865765892847987286:=0
def tw7286864238479000458:=0
def tw2852803515131469954:=0
def tw16710339581906344582:=0
def tw10974272604329923844:=0
def tw5482382984899203728:=0
def tw11703273630105793826:=0
def tw5710644634748018069:=0
def tw13198226579078227949:=0
def tw16154463550889485545:=0
def tw6893696630972914595:=0
def tw544152567802343182:=0
def tw3985018307836150903:=0
def tw5496178900322842095:=0
def tw2321936669559248602:=0
def tw13515048746659998120:=0
def tw7125450653608518129:=0
def tw9846442482353256625:=0
def tw14349767742827495758:=0
def tw6073998007134122734:=0
def tw6911106404363604125:=0
def tw8168999499366321763:=0
def tw17720134532783681407:=0
def tw2029467615385862083:=0
def tw720311089770872943:=0
def tw12661498343406926093:=0
def tw5315602538145237325:=0
def tw16252656688257278936:=0
def tw13637692148920005385:=0
def tw969060604682534431:=0
def tw12404155139925852489:=0
def tw6580210197313161934:=0
def tw8500251448879063843:=0
def tw9832076920314377323:=0
def tw5677978402365044714:=0
def tw9218006387404408688:=0
def tw12701343384568436145:=0
def tw3749977268901747267:=0
def tw7989245634956708281:=0
def tw8485440160607093274:=0
def tw6752895688656243418:=0
def tw14535876280268107656:=0
def tw17592971184835041930:=0
def tw16049507947056648755:=0
def tw17068674535084349146:=0
def tw18399315226639798822:=0
def tw16542298403501318747:=0
def tw428677780632468493:=0
def tw8726420183465732068:=0
def tw14714593193168748355:=0
def tw6087594375749860893:=0
def tw6482398987022366722:=0
def tw15669342959481266787:=0
def tw17609058434920123618:=0
def tw6173037112742252552:=0
def tw13202686072974841416:=0
def tw15996900861102530269:=0
def tw355451990073522867:=0
def tw15426557983610358554:=0
def tw12589344847828774672:=0
def tw15440746925785658054:=0
def tw12419048166834257315:=0
def tw9714639838796993054:=0
def tw11319262011059465684:=0
def tw3824459382933154292:=0
def tw6049036181558173390:=0
def tw6430768571354596794:=0
def tw3600176725896473177:=0
def tw11838714073573060708:=0
def tw18089154189686108875:=0
def tw17183847037731221224:=0
def tw17609010194249863267:=0
def tw4247792199735776891:=0
def tw3744225370602298372:=0
def tw6895102843014220459:=0
def tw4666334081461136736:=0
def tw16686968925634899812:=0
def tw10999296239751470328:=0
def tw10572116119740978945:=0
def tw18354273586463745372:=0
def tw10866694399833726707:=0
def tw17657367184781882235:=0
def tw11111501692344102402:=0
def tw897131027104275068:=0
def tw3286489110169912975:=0
def tw8705057403575900143:=0
def tw18444095551992084366:=0
def tw4013949904466416858:=0
def tw5297450536140446958:=0
def tw14841356834691649234:=0
def tw8877066368558602842:=0
def tw13945882623439673771:=0
def tw14040865993619568227:=0
def tw18119475472128695184:=0
def tw9995368404629861659:=0
def tw17445841665155514842:=0
def tw16529671765274997137:=0
def tw10510426468326870855:=0
def tw7653610200941551484:=0
def tw5719854830608724532:=0
def tw14426978754646706001:=0
def tw7258898709100455159:=0
def tw602027330204960256:=0
def tw9031042894301582823:=0
def tw17328406000628708784:=0
def tw13011863131066134066:=0
def tw11270125285720445176:=0
def tw15894698052404959068:=0
def tw9996998245252329500:=0
def tw3707282783082258283:=0
def tw13075555397737118587:=0
def tw11379949675275702609:=0
def tw3713735266851945213:=0
def tw14102524015541428474:=0
def tw10465793941958678111:=0
def tw14755900235519265893:=0
def tw724481315278553814:=0
def tw13978974374288357279:=0
def tw5419291150933209115:=0
def tw13330987873803455738:=0
def tw15527029688042819674:=0
def tw7041436088193225705:=0
def tw5792279229918541563:=0
def tw7093151132958003350:=0
def tw14162466862265967258:=0
def tw2330676191981775352:=0
def tw13184308183356506968:=0
def tw10381557035157461457:=0
def tw8708137225642796506:=0
def tw10012944101411462164:=0
def tw3904591120833743235:=0
def tw10054755131282646323:=0
def tw1008138050854530877:=0
def tw10115684389540685021:=0
def tw10145440655315577874:=0
def tw1016958164920645196:=0
def tw10173854832883787208:=0
def tw10193324395692271231:=0
def tw10206554153349561465:=0
def tw10320499219294685763:=0
def tw10515762920634116245:=0
def tw10517534688999114807:=0
def tw10531114471310078883:=0
def tw10554591854420879818:=0
def tw10585031500789593922:=0
def tw10855955692699177339:=0
def tw10954162612203588236:=0
def tw11136990937097854399:=0
def tw11254099919260678619:=0
def tw1126883449163376024:=0
def tw11412086740555749228:=0
def tw11414625836216352360:=0
def tw11432242322656899096:=0
def tw11432950853379044389:=0
def tw11522167004928231195:=0
def tw1164494004490501957:=0
def tw11733769770446930161:=0
def tw11741813539353196086:=0
def tw11741832278219004125:=0
def tw11781004695851003978:=0
def tw11858888815264457505:=0
def tw11886380498794090820:=0
def tw11888192814445213496:=0
def tw11910670525335100072:=0
def tw11921227865285026837:=0
def tw11961308074032889546:=0
def tw12046707830206335888:=0
def tw12052329861416922691:=0
def tw12071432706439556687:=0
def tw12114636656074312657:=0
def tw12164929917531181018:=0
def tw12203213646134752665:=0
def tw12208466458895300873:=0
def tw12244449090541857156:=0
def tw12249750363405905134:=0
def tw12258193850649522227:=0
def tw12272335453803358524:=0
def tw12336977474704267886:=0
def tw12432202423874423880:=0
def tw12442234561890825487:=0
def tw125762912494603419:=0
def tw12641109224795055903:=0
def tw12663413989333298908:=0
def tw12678923100955997712:=0
def tw12689088241330968063:=0
def tw12712269515535697819:=0
def tw12742962838280823273:=0
def tw12746063643467115523:=0
def tw12772895397663582814:=0
def tw12798945093355673411:=0
def tw12825125360170857877:=0
def tw12840050256880217589:=0
def tw12855964607997874836:=0
def tw12872859484977430740:=0
def tw12889910780380724352:=0
def tw12974104333546522543:=0
def tw12977627675990621425:=0
def tw13091673028412275803:=0
def tw13295575005506328246:=0
def tw1334067768155304940:=0
def tw13356848315964787884:=0
def tw13403745689203409547:=0
def tw13409560983053449293:=0
def tw13415682369862381074:=0
def tw1353265686592391748:=0
def tw1353872102985315617:=0
def tw13601725482791933125:=0
def tw13652897823764264225:=0
def tw13655012074284902517:=0
def tw13783659306799121311:=0
def tw13795774568304634045:=0
def tw1382089647287682105:=0
def tw13860124529188876402:=0
def tw13875922199540376752:=0
def tw13903901466938368370:=0
def tw14081487195052240264:=0
def tw14105736094355410650:=0
def tw14138009869442812496:=0
def tw14171493653648859029:=0
def tw14173540465519660257:=0
def tw1431931411696859268:=0
def tw14325887241220265251:=0
def tw14372029268295771399:=0
def tw14469605956044183306:=0
def tw14489867934035979865:=0
def tw14559261953634253801:=0
def tw14664629945313920601:=0
def tw14747393800053938145:=0
def tw14750492623247828022:=0
def tw1475939694803928882:=0
def tw14769488035013234256:=0
def tw14817546243066885368:=0
def tw14840113743865918449:=0
def tw14879344443713958272:=0
def tw1489300556316960523:=0
def tw15046485293371126907:=0
def tw15119445817073561321:=0
def tw15376451060539144792:=0
def tw15467389284110120499:=0
def tw15487845834573380674:=0
def tw15531518877884729687:=0
def tw15567814923935940979:=0
def tw15633983312658437982:=0
def tw15636568334655808608:=0
def tw15726710508461085225:=0
def tw15733474406079300189:=0
def tw15824803368581974664:=0
def tw15890621397613567947:=0
def tw15927194374744626696:=0
def tw15978793301630052357:=0
def tw16012597665218698329:=0
def tw16025881910783174718:=0
def tw16062544246109974984:=0
def tw16335461381200748543:=0
def tw16523845097013186353:=0
def tw16550931859800177797:=0
def tw16567847945344087682:=0
def tw16589629864108413068:=0
def tw16638105362579315611:=0
def tw16663687913861203046:=0
def tw16672302451930229380:=0
def tw16814362371381622343:=0
def tw16934329867012516547:=0
def tw17158236810002699283:=0
def tw17231154545220564043:=0
def tw17255077286936533171:=0
def tw17376708639838148781:=0
def tw17378027923086147768:=0
def tw17454429741727290194:=0
def tw1754568433553193025:=0
def tw17649840378159190420:=0
def tw17743584587455854836:=0
def tw1788354700838233164:=0
def tw17936535553100848386:=0
def tw17944698387009589326:=0
def tw17973100431215015043:=0
def tw17984521283957045985:=0
def tw18095869060268699741:=0
def tw18112909821982906112:=0
def tw18180123844497229668:=0
def tw18219809686253615110:=0
def tw18236613149699256680:=0
def tw18299022459835125355:=0
def tw18331637941036953290:=0
def tw1833222269906931111:=0
def tw1842045579543197949:=0
def tw1930695805510952308:=0
def tw1980512480361979477:=0
def tw2038475519785102546:=0
def tw2039397746741729397:=0
def tw2054404948093531963:=0
def tw2056876116093707204:=0
def tw2064144807907134770:=0
def tw2154477754169633468:=0
def tw2225778722561079124:=0
def tw2253585687001425070:=0
def tw2360172292785140186:=0
def tw2461306766095248585:=0
def tw2547263829076978724:=0
def tw2700534273687064582:=0
def tw2711252490248834230:=0
def tw2843102223419544026:=0
def tw2848412997624392304:=0
def tw2857363662445528557:=0
def tw2964282271116111241:=0
def tw312772035964463771:=0
def tw3231765523607269932:=0
def tw325214147435346132:=0
def tw3308835443095654219:=0
def tw3367869546832211173:=0
def tw3442596915938396783:=0
def tw345275572311234474:=0
def tw3538351368833242699:=0
def tw3700529325749493498:=0
def tw4004367262979719234:=0
def tw4035603476635327923:=0
def tw4123219352857457313:=0
def tw4188624996410547709:=0
def tw4228466757605983772:=0
def tw432321474193415611:=0
def tw4335283209139024766:=0
def tw4338422404663883464:=0
def tw4525073919496850742:=0
def tw4584277425142448379:=0
def tw4591625897951895973:=0
def tw4633952203414725946:=0
def tw4705809554269296291:=0
def tw4754365952769697820:=0
def tw476407509384713544:=0
def tw4802695694557202943:=0
def tw5250085835480776294:=0
def tw5316456780261392622:=0
def tw5411527645517913357:=0
def tw5456023583857882927:=0
def tw5513008257870045624:=0
def tw5555942421209955411:=0
def tw5574804688155163982:=0
def tw5584744849272766183:=0
def tw5640353130810404559:=0
def tw5649501510474369807:=0
def tw5687442338785679274:=0
def tw5709906406373580447:=0
def tw5873402174156526869:=0
def tw6098765436078242063:=0
def tw6110591870854981901:=0
def tw6302642832207217740:=0
def tw6303194021924512911:=0
def tw6311275737124694723:=0
def tw6370664483296997189:=0
def tw6580355564897329922:=0
def tw6593026516762248957:=0
def tw6647976382925790240:=0
def tw6734597192584243372:=0
def tw6735035450036606331:=0
def tw6783753218158533446:=0
def tw6889489832900594921:=0
def tw7115853088222959113:=0
def tw7133282364159092956:=0
def tw7142618724039181639:=0
def tw7151177674194526502:=0
def tw722801501462335527:=0
def tw7230264424509201120:=0
def tw7232056258214894570:=0
def tw7354960550814044838:=0
def tw7362646962169034992:=0
def tw7400481937338012483:=0
def tw7520486064046603900:=0
def tw7608948631362990723:=0
def tw7612781933458597596:=0
def tw7745849459055491683:=0
def tw7751793369225610104:=0
def tw7942457181104437270:=0
def tw8036026111458239199:=0
def tw8041065752018157770:=0
def tw8065744565393181593:=0
def tw8101936004653573176:=0
def tw8184517463023064361:=0
def tw820544753493290191:=0
def tw8405067235512169478:=0
def tw8444756656155570515:=0
def tw8495023054616009981:=0
def tw852091218173654362:=0
def tw8539243670653301266:=0
def tw8568187464817337402:=0
def tw8677479363954664081:=0
def tw8725081534862744316:=0
def tw873861943912599455:=0
def tw8767931906101196484:=0
def tw8775844894257406090:=0
def tw8805093959566890582:=0
def tw8805559362620967596:=0
def tw9100004759948383570:=0
def tw9131732379704965468:=0
def tw9170398918017801559:=0
def tw9379757404232765362:=0
def tw9381261087729262573:=0
def tw9400906667012006898:=0
def tw9429308954801644108:=0
def tw9480652655212961967:=0
def tw9532480512814802317:=0
def tw9646488230033787116:=0
def tw9710400423381737794:=0
def tw972872363167816567:=0
def tw9775280720470233807:=0
def tw9802861496325397398:=0
def tw9987384662324243658:=0
end PySem.W.Fast
open PySem PySem.W PyProof.Rows in
set_option maxRecDepth 100000 in
set_option maxHeartbeats 0 in
open_top hd95 for PySem.Challenge.rw_squaresheet_k95_desk_refused
open PySem.W renaming Frag->yS,nsIn->yF,findIn->yD,mg_of->yu,kitOne->yp,mg_none_of->yg,keepIn->yf,fnOf->yd,subIn->xR,kia_one->xK,codeIn->xG,hideAll_get->xF,hasDictIn->xE,emptyDict->xD,specialIn->xC,hideAll->xA,InstAt->xu,mroIn->xm,instObj->xk,takesIn->xj,of_hideAll->xc,callWith_K->w4,clsIn->wZ,typeIn->wY,plainGet->wG,methodCall_KW->wC,looks_findIn->wu,notCls->wq,isFn->wg,makesIn->wa,Looks->vZ,cellsFrom_some->vV,plainOver->vR,handedIn->vI,hideAll_none->vF,plainGet_of->vx,callWith_K0->vw,looks_subIn->vq,findObj->vp,binds_K->vn,isNs_of_in->vf,lookIn->va,kitAny->u7,methodObj->u4
open List renaming getElem?_eq_getElem->yR,getElem?_eq_some_iff->yP,mem_range->yL,length_map->yK,length_append->yJ,range->yI,mem_singleton->yH,getD_eq_getElem?_getD->yG,mem_map->yE,mem_of_getElem?->yA,mem_cons_of_mem->yx,getElem?_map->yw,size_toArray->yt,mem_append_right->yr,getElem?_append_left->yq,mem_append->yo,all_eq_true->yn,map_append->ym,mem_cons->yl,mem_filter->yk,length_cons->yi,map_cons->ye,mem_iff_getElem->yc,getElem?_append_right->xX,lookup_cons->xU,take_add_one->xT,mem_cons_self->xS,mem_append_left->xP,getElem?_eq_none->xO,getElem_mem->xJ,length_take->xy,lookup->xx,nodup_append->xw,length_singleton->xt,any_eq_true->xq,take_length->xn,map_map->xl,find?_cons->xi,getElem?_set_self->xh,cons_append->xf,pairwise_iff_getElem->wX,drop_eq_getElem_cons->wW,getElem?_set_ne->wV,nodup_cons->wU,length_nil->wR,pairwise_map->wQ,foldl_append->wN,length_range->wM,nil_append->wL,length_pos_iff->wI,getElem?_range->wH,replicate->wF,append_nil->wD,length->wB,forIn_cons->wA,idxOf_lt_length_of_mem->wz,perm_ext_iff_of_nodup->wx,dropLast_subset->wt,getElem?_eq_none_iff->wo,mem_flatMap->wm,filterMap_cons->wk,mem_filterMap->wc,range_succ->vX,take_of_length_le->vU,drop_eq_nil_of_le->vT,pairwise_lt_range->vS,length_replicate->vO,getD->vL,eq_nil_or_concat->vK,length_filter_le->vJ,nodup_range->vG,length_dropLast->vC,all_cons->vB,any_cons->vA,dropLast_concat_getLast->vz,of_mem_zip->vt,append_inj->vo,pairwise_cons->vc,filter_append->vb,forIn_nil->u9,getElem?_zip_eq_some->u6,append_assoc->uZ,getElem?_replicate->uY,length_eq_zero_iff->uX
open PySem.Heap renaming get?_push_of_some->yQ,get?_push_size->yN,lt_size->yM,get?_update_other->yj,get?_update_self->xW,size_push->xV,SameBut->xb,MadeExcOf->vP,get?_none_of_le->vD
open Nat renaming le_refl->yO,lt_of_lt_of_le->yz,ne_of_lt->yv,lt_or_ge->yb,lt_succ_of_lt->xZ,zero_le->xY,le_trans->xQ,lt_irrefl->xN,not_lt_zero->xM,lt_of_le_of_lt->xI,lt_succ_self->xr,ne_of_gt->w9,le_of_lt->wK,le_succ->wJ,succ_ne_self->vH,lt_trans->vg,lt_trichotomy->u0,log2_lt->uW
open Bool renaming false_ne_true->yC,and_eq_true->yy,false_eq_true->xH,eq_false_iff->wy,eq_iff_iff->wb,not_true->vY,not_eq_true'->u3
open Int renaming toNat_natCast->yh,toNat_of_nonneg->wj,eq_ofNat_of_zero_le->vW,gcd->vQ,fdiv_eq_ediv_of_nonneg->vm
open Array renaming getElem?_eq_some_iff->xg,getElem?_setIfInBounds_ne->wO,getElem?_toList->vN,eq_empty_of_size_eq_zero->vM,length_toList->vy,getElem?_eq_none_iff->vk,append_assoc->vh,forIn_toList->vd
open PySem renaming wpAny_bind->uV,Value->uT,Shared->uS,sizeLine->uR,wpAny_pure->uQ,wpAny->uP,model->uM,mainGlobals->uG,Program->uE,boot_len->uD,FuncData->uC,starEach->uB,wpAny_mono->uA,World->uw,Around->uq,wpAny_field->um,bootBuiltins->uh,wpAny_seqItems->ue,wpAny_callSpecial?_slot->ua,wpAny_newObj_type->tZ,wpAny_call_entry->tW,compareOp->tV,wpAny_truthy_bool->tU,cLine->tO,valueAt->tK,argBest->tJ,sysModules->tI,wpAny_setField->tD,rawInt->sW,wpAny_Call_Name_kw->sU,wpAny_comprehension_free->sR,Reads->sN,hashStr->sM,backTo->sL,Builtin->sG,Spec->sF,codeAny_builtin->sD,wpAny_pyIter_list->sC,foldedSetIterable->sx,wpAny_loadPart_at->sr,wpAny_holding->sk,mem_of_lookup->r9,NameKind->r6,notedBy->rZ,firstArgMember->rY,Scope->rX,swapsWith->rW,wpAny_pyIter_tuple->rV,codeAny_mono->rT,wpAny_passesOwn->rR,letOwnedTupleGo->rQ,wpAny_loadPart'->rP,wpAny_call->rN,codeAny->rL,PyData->rK,slot_listiter_next->rJ,field->rH,wpAny_execs_nil->rE,pyNext->rD,seqItems?->rz,wpAny_rule->rm,wpAny_setField_rec->rj,binaryOp->rh,sizeLine_eq->rg,compEnvC->qZ,compPost->qY,IsPair->qW,assignEach->qU,atKey->qT,codeAny_call_builtin->qR,wpAny_isInstance->qQ,wpAny_forIn_list->qP,behindInMarks->qN,attributeBase->qM,wpAny_standAt->qL,sliceBounds->qJ,wpAny_letGo->qI,wpAny_specialOf->qH,DictEntry->qF,tupleKeyHash->qB,isInstance->qy,assign->qt,wpAny_pyNext_list_item->qr,wpAny_Assign_Subscript->qq,strIterType->qp,wpAny_attempt->ql,plainId_quiet->qk,bindArgs->qj,wpAny_pyIter_listiter->qf,BindsTo->qe,isSubtype_tuple_tuple->qc,typeIs_str->qb,call_meets->qa,IsTupleKey->pX,recursionLimit->pV,wpAny_tryCatch->pU,keywordEach->pT,wpAny_of_eq->pR,wpAny_throw->pQ,getMethod->pO,noteFrame->pN,scanBound->pM
open PySem.Str renaming ofString->uU,empty->tu
open Sum renaming inr->uN,inl->ur
open PySem.Value renaming ref->uI,none->uk,type->tP,bool->tj,int->qV,builtin->qK,str->pP
open Option renaming some->uz,map_eq_some_iff->sJ,isSome_iff_exists->sE,bind_some->qh,map_some->pZ
open PySem.Builtin.SmallTypes renaming nextOf->uo,ownedTupleIsFree->sP,ownedTupleHandOut->qC
open False renaming elim->uj
open PySem.Builtin.Str renaming occurrences->ui,partsBetween->qD
open Or renaming inl->ug
open PySem.PassesOwn renaming never->uf
open PySem.F renaming plainAttrs_list->ud,slot_list_append->tN,type_list_append->tL,plainAttrs_str->tw,excBase_ValueError->rO,slot_str_split->qo,type_str_split->qm
open Ne renaming symm->uc
open PySem.PyData renaming depthAll->tY,eqv->sZ,canLayAll0->qv
open PySem.Obj renaming data_mapFields->tT,isFreed_of_fields->sX,mapFields->sj,cls_mapFields->qw
open Classical renaming byContradiction->tR,propDecidable->sf
open True renaming intro->tH
open PySem.NameKind renaming free->tG
open PyProof.Rows renaming IntsAre->tE,listItems_at->sQ,callWith_type1->sO,envOfC->rC,AllBare->qX,firstMet->qS
open PySem.Heap.SameBut renaming update->tq
open PySem.Builtin.Tuple renaming tupleHashOf->sY
open PySem.Txt renaming split->rM
open PySem.Challenge renaming rw_squaresheet_k95_desk_refused->rG
open PySem.SeqAt renaming EqAt->rB
open PySem.Around renaming under_plainId->qO
open PySem.SeqAt.EqAt renaming int_int->qG
open PySem.Code renaming quiet_builtin->qE
open List.Pairwise renaming imp_of_mem->qA
open PySem.MeetsSeq3 renaming plain_eq_loop->qx
open PySem.StrLaws renaming sliceText->qu
open List renaming nodup_range->qg,cons->qd
open ForInStep renaming yield->pY
set_option Elab.async false
set_option linter.all false
set_option maxRecDepth 100000
theorem Z{α:Sort _}{a:α}:a=a:=rfl
def uO:=@decide_eq_true
def uL:=@if_neg
def uK:=@if_pos
def uJ:=@decide_eq_false
def uH:=@decide_eq_true_iff
def uF:=@of_decide_eq_true
def tX:=@congrArg
def tQ:=@beq_eq_false_iff_ne
def tf:=@beq_iff_eq
def sI:=@decide_eq_decide
def rS:=@of_decide_eq_false
def rF:=@decide_eq_false_iff_not
def q0:=@if_false
def qz:=@if_true
def qi:=@beq_self_eq_true
def pW:=@ne_true_of_eq_false
namespace L2
open PySem PySem.Spec PyProof.Rows
noncomputable abbrev Key:=Sum Int Str
noncomputable def V1:Key->uT->Bool
 | .inl k,v=>Value.isInt k v
 | .inr x,v=>Value.isStrOf x v
noncomputable def keyH (w:uw):Key->Int
 | .inl k=>hashInt k
 | .inr x=>sM w x
theorem XG:∀ {k:Key} {v:uT},V1 k v=true->(∃ i t,k=ur i/\v=qV i t)\/(∃ x t,k=uN x/\v=pP x t)
 | .inl i,v,h=>by
  obtain⟨t,e⟩:=Value.isInt_shape (k:=i) (v:=v) h;exact .inl ⟨i,t,rfl,e⟩
 | .inr x,v,h=>by
  obtain⟨t,e⟩:=Value.isStrOf_shape (x:=x) (v:=v) h;exact .inr ⟨x,t,rfl,e⟩
theorem Gw (i:Int)(t:Tok):V1 (.inl i) (.int i t)=true:=by simp[V1,Value.isInt]
theorem Wn (x:Str)(t:Tok):V1 (.inr x) (.str x t)=true:=by simp[V1,Value.isStrOf]
theorem Be (a b:Int):decide ((ur a:Key)=ur b)=(a==b):=by
 by_cases e:a=b;subst e;simp;have h:¬ (ur a:Key)=ur b:=fun q=>e (ur.inj q);rw[uJ h];exact (tQ.mpr e).symm
theorem CZ (a b:Str):decide ((uN a:Key)=uN b)=decide (a=b):=by
 by_cases e:a=b;subst e;simp;have h:¬ (uN a:Key)=uN b:=fun q=>e (uN.inj q);rw[uJ h,uJ e]
theorem BB (a:Int)(b:Str):decide ((ur a:Key)=uN b)=false:=uJ (fun q=>nomatch q)
theorem AE (a:Str)(b:Int):decide ((uN a:Key)=ur b)=false:=uJ (fun q=>nomatch q)
noncomputable def Zt (prog:uE)(w:uw):PySem.KeyKind prog w Key where
 is:=V1
 hash:=keyH w
 inj:=fun v a b ha hb=>by
  rcases XG ha with ⟨i,t,rfl,rfl⟩|⟨x,t,rfl,rfl⟩;rcases XG hb with ⟨j,u,rfl,e⟩|⟨y,u,rfl,e⟩;injection e with e1 _;rw[e1]
  exact nomatch e;rcases XG hb with ⟨j,u,rfl,e⟩|⟨y,u,rfl,e⟩;exact nomatch e;injection e with e1 _;rw[e1]
 byValue:=fun k v h=>by
  rcases XG h with ⟨i,t,rfl,rfl⟩|⟨x,t,rfl,rfl⟩<;>rfl
 pyHash:=fun hv h=>by
  rcases XG hv with ⟨i,t,rfl,rfl⟩|⟨x,t,rfl,rfl⟩;exact wpAny_pyHash_int h;exact wpAny_pyHash_str h
 eqBool:=fun hu hv h=>by
  rcases XG hu with ⟨i,t,rfl,rfl⟩|⟨x,t,rfl,rfl⟩;rcases XG hv with ⟨j,u,rfl,rfl⟩|⟨y,u,rfl,rfl⟩;rw[Be]at h;exact wpAny_eqBool_int h;rw[BB]at h;exact SeqAt.EqAt.int_str i t y u _ _ _ _ h;rcases XG hv with ⟨j,u,rfl,rfl⟩|⟨y,u,rfl,rfl⟩;rw[AE]at h;exact SeqAt.EqAt.str_int x t j u _ _ _ _ h;rw[CZ]at h;exact wpAny_eqBool_str h
 «strs»:=fun k x t v h=>by
  rcases XG h with ⟨i,u,rfl,e⟩|⟨y,u,rfl,e⟩;exact nomatch e;injection e with e1 _
  subst e1;cases v<;>rfl
theorem Oa (prog:uE)(w:uw)(i:Int)(t:Tok):(Zt prog w).is (.inl i) (.int i t)=true:=Gw i t
theorem Od (prog:uE)(w:uw)(x:Str)(t:Tok):(Zt prog w).is (.inr x) (.str x t)=true:=Wn x t
inductive V where
 | non|bl (b:Bool)|int (i:Int)|str (x:Str)|byt (b:Array UInt8)|flt (b:UInt64)|ref (a:Addr)|ty (n:String)
 deriving DecidableEq
def ZS:V->uT->Prop
 | .non,u=>u=uk
 | .bl b,u=>u=tj b
 | .int i,u=>∃ t,u=qV i t
 | .str x,u=>∃ t,u=pP x t
 | .byt b,u=>∃ t,u=Value.bytes b t
 | .flt b,u=>∃ t,u=Value.float b t
 | .ref a,u=>u=uI a
 | .ty n,u=>u=tP n
abbrev ZX:List V->List uT->Prop:=Paired ZS
theorem ZX.length {xs:List V}{us:List uT}(r:ZX xs us):xs.length=us.length:=Paired.length r
theorem ZX.get:∀ {xs:List V} {us:List uT} {i:Nat} {x:V},ZX xs us->xs[i]?=some x->∃ u,us[i]?=some u/\ZS x u
 | _,_,_,_,.nil,e=>by simp at e
 | _,_,0,_,.cons r _,e=>by simp at e;subst e;exact⟨_,Z,r⟩
 | _,_,i+1,x,.cons _ t,e=>by
  obtain⟨u,h1,h2⟩:=ZX.get (i:=i) (x:=x) t (by simpa using e);exact⟨u,by simpa using h1,h2⟩
theorem ZX.set {x:V}{u:uT}(r:ZS x u):∀ {xs:List V} {us:List uT} (i:Nat),ZX xs us->ZX (xs.set i x) (us.set i u)
 | _,_,_,.nil=>.nil
 | _,_,0,.cons _ t=>.cons r t
 | _,_,i+1,.cons q t=>.cons q (ZX.set r i t)
theorem ZX.append:∀ {xs ys:List V} {us ws:List uT},ZX xs us->ZX ys ws->ZX (xs++ys) (us++ws)
 | _,_,_,_,.nil,s=>s
 | _,_,_,_,.cons r t,s=>.cons r (ZX.append t s)
theorem ZX.take:∀ {xs:List V} {us:List uT} (n:Nat),ZX xs us->ZX (xs.take n) (us.take n)
 | _,_,0,_=>.nil
 | _,_,_+1,.nil=>.nil
 | _,_,n+1,.cons r t=>.cons r (ZX.take n t)
theorem ZX.drop:∀ {xs:List V} {us:List uT} (n:Nat),ZX xs us->ZX (xs.drop n) (us.drop n)
 | _,_,0,r=>r
 | _,_,_+1,.nil=>.nil
 | _,_,n+1,.cons _ t=>ZX.drop n t
def YO:Option V->Option uT->Prop
 | some v,some u=>ZS v u
 | none,none=>True
 | _,_=>False
def KV {κ:Type}:List (κ×V)->List (κ×uT)->Prop:=Paired fun (p:κ×V) (q:κ×uT)=>p.1=q.1/\ZS p.2 q.2
noncomputable def kV:Key->V
 | .inl i=>.int i
 | .inr x=>.str x
inductive HO where
 | lst (xs:List V)
 | tup (xs:List V)
 | dK (kvs:List (Key×V))|dT (kvs:List (List Key×V))
 | set (S:Int->Bool) (n:Nat)
 | ins (C dx:Addr) (fs:List (Str×V))
 | own (x:Addr)
 | xd (fs:List (Str×V))
 | met (f x:Addr)
 | rng (lo hi:Int)
 | frz (o:Obj) (u:HO)
 | tbl (ps:Array uT)
 | ext (φ:Heap->Prop)
noncomputable abbrev Hp:=Addr->Option HO
noncomputable def upd (H:Hp)(a:Addr)(o:HO):Hp:=fun b=>if b=a then some o else H b
variable{H:Hp}{a:Addr}
theorem Z0 {o:HO}:upd H a o a=some o:=by unfold upd;rw[uK rfl]
variable{b:Addr}
theorem Z5 {o:HO}(h:b≠a):upd H a o b=H b:=by unfold upd;rw[uL h]
theorem TQ {o u:HO}(h:H a=some o)(h':H b=some u)(d:o≠u):a≠b:=by
 intro e;subst e;rw[h]at h';exact d (uz.inj h')
theorem ZJ {o:HO}(h:H a=some o)(h':H b=none):a≠b:=by
 intro e;subst e;rw[h]at h';cases h'
section
variable (P:uE)(w:uw)
def NoD (h:Heap)(a:Addr):Prop:=∃ o,h.get? a=some o/\o.dict=none
def ZC (H:Hp)(h:Heap)(a:Addr):HO->Prop
 | .lst xs=>xs.length<=uR/\∃ (pL:List uT) (n:Nat),ZX xs pL/\h.get? a=some { cls:=.type "list",data:=.seq pL.toArray n }
 | .tup xs=>(xs.length<=uR/\NoD h a)/\∃ pL:List uT,ZX xs pL/\IsTup h a pL.toArray
 | .dK kvs=>kvs.length<=uR/\(a==tI)=false/\∃ vs,KV kvs vs/\h.DictOf (Zt P w) a vs
 | .dT kvs=>kvs.length<=uR/\(a==tI)=false/\∃ xs:List (List Key×Addr×uT),
   Paired (fun (p:List Key×V) (q:List Key×Addr×uT)=>p.1=q.1/\H q.2.1=some (.tup (p.1.map kV))/\ZS p.2 q.2.2) kvs xs/\
   ∃ o es ep,h.get? a=some o/\o.ExactDict/\o.data=.dict es ep/\es.toList=xs.map (entryOfKey (tupleKind (Zt P w)))/\(xs.map (·.1)).Nodup
 | .set S n=>h.SetOf (intKind P w) a S n
 | .ins C dx fs=>H dx=some (.own a)/\fs.length<=1000/\dx≠a/\h.get? a=some (xk C dx)/\
   ∃ mA,h.Ns1 dx mA/\(∀ f,YO (fs.lookup f) (mA f))/\PySem.Within mA (fs.map (·.1))
 | .own _=>∃ o,h.get? a=some o
 | .xd fs=>∃ mA,h.Ns1 a mA/\∀ f,YO (fs.lookup f) (mA f)
 | .rng lo hi=>∃ t u v,h.get? a=some { cls:=.type "range",data:=.fields #[.int lo t,.int hi u,.int 1 v] }
 | .frz o u=>h.get? a=some o/\ZC H h a u
 | .tbl ps=>h.get? a=some { cls:=.none,data:=.fields ps }
 | .met f x=>h.get? a=some (u4 (.ref f) (.ref x))
 | .ext φ=>φ h/\(∃ o,h.get? a=some o)/\∀ h1 h2:Heap,φ h1->(∀ o,h1.get? a=some o->h2.get? a=some o)->φ h2
def HOk (H:Hp)(h:Heap):Prop:=∀ a o,H a=some o->ZC P w H h a o
end
variable{h':Heap}
section
variable {P:uE}{w:uw}{H':Hp}{h:Heap}{o:HO}
theorem ZC.lt (x:ZC P w H h a o):a<h.objs.size:=by
 cases o with
 | lst xs=>obtain⟨_,_,_,_,e⟩:=x;exact yM e
 | tup xs=>obtain⟨_,_,_,p⟩:=x;exact p.lt
 | dK kvs=>obtain⟨_,_,_,_,o,_,_,e,_⟩:=x;exact yM e
 | dT kvs=>obtain⟨_,_,_,_,o,_,_,e,_⟩:=x;exact yM e
 | set S n=>obtain⟨o,_,_,_,e,_⟩:=x;exact yM e
 | ins C dx fs=>obtain⟨_,_,_,e,_⟩:=x;exact yM e
 | own y=>obtain⟨_,e⟩:=x;exact yM e
 | xd fs=>obtain⟨_,⟨_,_,_,e,_⟩,_⟩:=x;exact yM e
 | rng lo hi=>obtain⟨_,_,_,e⟩:=x;exact yM e
 | frz ob u=>obtain⟨e,_⟩:=x;exact yM e
 | tbl ps=>exact yM (show h.get? a=some _ from x)
 | met f y=>exact yM (show h.get? a=some _ from x)
 | ext φ=>obtain⟨_,⟨_,e⟩,_⟩:=x;exact yM e
theorem Paired.mapP {α β:Type}{F G:α->β->Prop}:∀ {l₁:List α} {l₂:List β},Paired F l₁ l₂->(∀ a b,F a b->G a b)->Paired G l₁ l₂
 | _,_,.nil,_=>.nil
 | _,_,.cons r t,f=>.cons (f _ _ r) (Paired.mapP t f)
theorem ZC.stay (x:ZC P w H h a o)(k:∀ b u,(b=a\/H b=some (.own a))->h.get? b=some u->h'.get? b=some u)
  (ho:∀ b,H b=some (.own a)->H' b=some (.own a)) (ht:∀ b xs,H b=some (.tup xs)->H' b=some (.tup xs)):ZC P w H' h' a o:=by
 induction o with
 | lst xs=>obtain⟨z,pL,n,r,e⟩:=x;exact⟨z,pL,n,r,k _ _ (.inl Z) e⟩
 | tup xs=>obtain⟨z,pL,r,ob,e,c⟩:=x;exact⟨⟨z.1,z.2.imp fun _ q=>⟨k _ _ (.inl Z) q.1,q.2⟩⟩,pL,r,ob,k _ _ (.inl Z) e,c⟩
 | dK kvs=>obtain⟨z,y,vs,r,ob,es,ep,e,c⟩:=x;exact⟨z,y,vs,r,ob,es,ep,k _ _ (.inl Z) e,c⟩
 | dT kvs=>
  obtain⟨z,y,xs,r,ob,es,ep,e,c⟩:=x;exact⟨z,y,xs,Paired.mapP r fun p q z=>⟨z.1,ht _ _ z.2.1,z.2.2⟩,ob,es,ep,k _ _ (.inl Z) e,c⟩
 | set S n=>obtain⟨ob,es,ep,t,e,c⟩:=x;exact⟨ob,es,ep,t,k _ _ (.inl Z) e,c⟩
 | ins C dx fs=>
  obtain⟨d,z,ne,e,mA,⟨od,es,ep,e2,c⟩,r⟩:=x;exact⟨ho _ d,z,ne,k _ _ (.inl Z) e,mA,⟨od,es,ep,k _ _ (.inr d) e2,c⟩,r⟩
 | own y=>obtain⟨ob,e⟩:=x;exact⟨ob,k _ _ (.inl Z) e⟩
 | xd fs=>obtain⟨mA,⟨od,es,ep,e,c⟩,r⟩:=x;exact⟨mA,⟨od,es,ep,k _ _ (.inl Z) e,c⟩,r⟩
 | rng lo hi=>obtain⟨t,u,v,e⟩:=x;exact⟨t,u,v,k _ _ (.inl Z) e⟩
 | frz ob u ih=>obtain⟨e,q⟩:=x;exact⟨k _ _ (.inl Z) e,ih q⟩
 | tbl ps=>
  have e:h.get? a=some { cls:=.none,data:=.fields ps }:=x;show h'.get? a=some { cls:=.none,data:=.fields ps };exact k a _ (.inl rfl) e
 | met f y=>
  have e:h.get? a=some (u4 (.ref f) (.ref y)):=x;show h'.get? a=some (u4 (.ref f) (.ref y));exact k a _ (.inl rfl) e
 | ext φ=>obtain⟨p,⟨o,e⟩,st⟩:=x;exact⟨st _ _ p fun o q=>k _ _ (.inl Z) q,⟨o,k _ _ (.inl Z) e⟩,st⟩
theorem HOk.lt (x:HOk P w H h)(e:H a=some o):a<h.objs.size:=(x a o e).lt
theorem HOk.fresh (x:HOk P w H h)(e:h.objs.size<=a):H a=none:=by
 cases q:H a with
 | none=>rfl
 | some u=>exact absurd (yz (x.lt q) e) (xN _)
theorem HOk.kept (x:HOk P w H h)(k:∀ b u,h.get? b=some u->h'.get? b=some u):HOk P w H h':=fun a o e=>
 (x a o e).stay (fun b u _ q=>k b u q) (fun _ q=>q) fun _ _ q=>q
theorem HOk.laid (x:HOk P w H h)(k:∀ b u,h.get? b=some u->h'.get? b=some u)(hp:h.objs.size<=a)(new:ZC P w (upd H a o) h' a o):HOk P w (upd H a o) h':=fun b u e=>by
 have hn:=x.fresh hp;by_cases hb:b=a;subst hb;rw[Z0]at e;cases e;exact new;rw[Z5 hb]at e;exact (x b u e).stay (fun c v _ q=>k c v q) (fun c q=>by rw[Z5 (ZJ q hn)];exact q) fun c xs q=>by rw[Z5 (ZJ q hn)];exact q
end
def Rd (H:Hp)(a:Addr)(u:HO):Prop:=H a=some u\/∃ o,H a=some (.frz o u)
variable{P:uE}{h:Heap}
theorem Rd.ok {w:uw}{u:HO}(r:Rd H a u)(x:HOk P w H h):ZC P w H h a u:=by
 rcases r with r|⟨o,r⟩;exact x a u r;obtain⟨_,q⟩:=x a _ r;exact q
def Mut:Option HO->Prop
 | some (.lst _)=>True
 | some (.dK _)=>True
 | some (.dT _)=>True
 | some (.set _ _)=>True
 | some (.ins _ _ _)=>True
 | some (.ext _)=>True
 | _=>False
section
variable {w:uw}{x e:Addr}{o':HO}
theorem HOk.write (ok:HOk P w H h)(mu:Mut (H x))(he:e=x\/H e=some (.own x))(k:∀ b u,b≠e->h.get? b=some u->h'.get? b=some u)(fj:∃ u,h'.get? e=some u)
  (new:ZC P w (upd H x o') h' x o'):HOk P w (upd H x o') h':=fun b u q=>by
 have cU:∀ c y,H c=some (.own y)->c≠x:=fun c y r z=>by subst z;rw[r]at mu;exact mu
 have ntup:∀ c xs,H c=some (.tup xs)->c≠x:=fun c xs r z=>by subst z;rw[r]at mu;exact mu
 by_cases hb:b=x;subst hb;rw[Z0]at q;cases q;exact new;rw[Z5 hb]at q;by_cases i3:b=e;have q':H b=some (.own x):=by
  rcases he with z|z;exact absurd (i3.trans z) hb;rw[i3];exact z
 rw[q]at q';cases q';obtain⟨v,hv⟩:=fj;exact⟨v,by rw[i3];exact hv⟩;refine (ok b u q).stay (fun c v hc r=>k c v ?_ r) (fun c r=>by rw[Z5 (cU c b r)];exact r) fun c xs r=>by rw[Z5 (ntup c xs r)];exact r
 rcases hc with rfl|hc;exact i3;rintro rfl;rcases he with z|z;exact cU c b hc z;rw[hc]at z;cases z;exact hb rfl
end
structure Un (fs ex:List Addr)(H H':Hp)(h h':Heap):Prop where
 keep:∀ b o,h.get? b=some o->H b=none->b∉fs->b∉ex->h'.get? b=some o
 slot:∀ b o,h.get? b=some o->H b=none->b∈fs->b∉ex->∃ sl,h'.get? b=some { o with slots:=sl }
 free:∀ b o,h.get? b=some o->H b=none->b∉ex->H' b=none
 there:∀ b o,h.get? b=some o->b∉ex->∃ o',h'.get? b=some o'
 tups:∀ b xs,H b=some (.tup xs)->H' b=some (.tup xs)
 frzs:∀ b o u,H b=some (.frz o u)->H' b=some (.frz o u)
 tbls:∀ b ps,H b=some (.tbl ps)->∃ more,H' b=some (.tbl (ps++more))
section
variable {fs fs' ex ex':List Addr}{H1 H2:Hp}{h1 h2:Heap}{x e:Addr}{o:HO}
theorem Un.any (u:Un fs ex H H1 h h1){ob:Obj}(q:h.get? b=some ob)(n:H b=none)(hx:b∉ex):∃ sl,h1.get? b=some { ob with slots:=sl }:=by
 by_cases hb:b∈fs;exact u.slot b ob q n hb hx;exact⟨ob.slots,u.keep b ob q n hb hx⟩
theorem Un.kept (k:∀ b u,h.get? b=some u->h'.get? b=some u):Un fs ex H H h h':=
 ⟨fun b ob q _ _ _=>k b ob q,fun b ob q _ _ _=>⟨ob.slots,k b ob q⟩,fun _ _ _ n _=>n,fun b ob q _=>⟨ob,k b ob q⟩,fun _ _ q=>q,fun _ _ _ q=>q,fun _ ps q=>⟨#[],by rw[q];simp⟩⟩
theorem Un.refl:Un fs ex H H h h:=Un.kept fun _ _ q=>q
theorem Un.laid (k:∀ b u,h.get? b=some u->h'.get? b=some u)(hp:h.objs.size<=a)(hn:H a=none):Un fs ex H (upd H a o) h h' where
 keep:=fun b u q _ _ _=>k b u q
 slot:=fun b u q _ _ _=>⟨u.slots,k b u q⟩
 free:=fun b u q n _=>by rw[Z5 (yv (yz (yM q) hp))];exact n
 there:=fun b u q _=>⟨u,k b u q⟩
 tups:=fun b xs q=>by rw[Z5 (ZJ q hn)];exact q
 frzs:=fun b u xs q=>by rw[Z5 (ZJ q hn)];exact q
 tbls:=fun b ps q=>⟨#[],by rw[Z5 (ZJ q hn),q];simp⟩
theorem Un.write (mu:Mut (H x))(he:e=x\/H e=some (.own x))(k:∀ b u,b≠e->h.get? b=some u->h'.get? b=some u)(fj:∃ u,h'.get? e=some u):Un fs ex H (upd H x o) h h':=by
 have hx:∀ b,H b=none->b≠x:=fun b n z=>by subst z;rw[n]at mu;exact mu
 have hb:∀ b,H b=none->b≠e:=fun b n z=>by
  subst z;rcases he with r|r;exact hx b n r;rw[n]at r;cases r
 have hm:∀ b u,H b=some u->¬ Mut (some u)->b≠x:=fun b u q nm z=>by subst z;rw[q]at mu;exact nm mu
 refine⟨fun b u q n _ _=>k b u (hb b n) q,fun b u q n _ _=>⟨u.slots,k b u (hb b n) q⟩,fun b u q n _=>by rw[Z5 (hx b n)];exact n,fun b u q _=>?_,
  fun b xs q=>by rw[Z5 (hm b _ q fun z=>z)];exact q,fun b u xs q=>by rw[Z5 (hm b _ q fun z=>z)];exact q,fun b ps q=>⟨#[],by rw[Z5 (hm b _ q fun z=>z),q];simp⟩⟩
 by_cases i3:b=e;subst i3;exact fj;exact⟨u,k b u i3 q⟩
end
noncomputable def trk (h:Heap)(H:Hp):List Addr:=(yI h.objs.size).filter fun a=>(H a).isSome
noncomputable def WT (h:Heap)(H:Hp):Heap:=xA h (trk h H)
theorem Ho (h:Heap)(H:Hp):(WT h H).objs.size=h.objs.size:=PySem.W.hideAll_size _ _
variable{o:Obj}
theorem EW (e:h.get? b=some o)(n:H b=none):(WT h H).get? b=some o:=
 xF _ e fun hm=>by
  have q:(H b).isSome=true:=(yk.mp hm).2;rw[n]at q;simp at q
theorem C0 (e:(WT h H).get? b=some o):h.get? b=some o/\H b=none:=by
 have e':h.get? b=some o:=xc (trk h H) e;refine⟨e',?_⟩;cases q:H b with
 | none=>rfl
 | some x=>
  have hm:b∈trk h H:=yk.mpr ⟨yL.mpr (yM e'),by simp[q]⟩;have z:(WT h H).get? b=none:=vF (trk h H) hm;rw[z]at e;cases e
structure Mod (K:yS)(mg:Str->Option uT)(base:Heap):Prop where
 kin:K.In base
 glob:base.Ns uG mg
 blt:∃ mb,base.Ns builtinsNs mb/\∀ x:Str,x≠"__name__"->mb x=uh x
 nolimit:base.NoLimit
structure Cx where
 prog:uE
 w:uw
 K:yS
 mg:Str->Option uT
 base:Heap
 A:uq
 N:List Str
 s₀:uS
 H₀:Hp
 env:Env
 outer:List Env
 stack:List Env
 ex:List Addr
 fn:Str->Bool
 calm:Bool
 pn:List (Addr×Obj)
 xe:uT->uS->Prop
noncomputable def frs (l:List Env):List Addr:=l.filterMap (·.frame)
noncomputable abbrev Cx.fs (X:Cx):List Addr:=frs X.outer
def Vis (sc:rX)(x:Str):Prop:=sc.names.lookup x=some .local\/sc.names.lookup x=some .cell\/sc.names.lookup x=some .free
def Loc (sc:rX)(x:Str):Prop:=sc.names.lookup x=some .local\/sc.names.lookup x=some .cell
def Look (env:Env)(h:Heap)(m:Str->Option uT)(x:Str)(u:uT):Prop:=
 (env.kindOf x=some .local/\m x=some u)\/((env.kindOf x=some .cell\/env.kindOf x=some .free)/\∃ c,env.cells.lookup x=some c/\h.IsCell c (some u))
structure Cx.Ok (X:Cx):Prop where
 mod:Mod X.K X.mg X.base
 kind:X.env.scope.kind=.function
 glob:X.env.globals=uG
 blt:X.env.builtins=builtinsNs
 above:X.s₀.heap.objs.size<=X.env.locals
 inj:∀ x y c,X.env.cells.lookup x=some c->X.env.cells.lookup y=some c->x=y
 has:∀ x,(X.env.kindOf x=some .cell\/X.env.kindOf x=some .free)->∃ c,X.env.cells.lookup x=some c
 cab:∀ x c,X.fn x=true->X.env.cells.lookup x=some c->X.s₀.heap.objs.size<=c
 hd:X.calm=true->X.A.handled=none
 frames:X.A.frames=some X.stack
 stk:X.stack=X.outer\/(X.stack=X.env::X.outer/\X.env.frame=some X.env.locals)
 exf:∀ b∈X.ex,b≠X.env.locals/\∀ x c,X.env.cells.lookup x=some c->c≠b
 bs:∀ b o,X.base.get? b=some o->X.s₀.heap.get? b=some o/\X.H₀ b=none
 bsz:X.base.objs.size<=X.s₀.heap.objs.size
 noex:∀ b o,X.base.get? b=some o->b∉X.ex
 exfs:∀ b∈X.ex,b∉X.fs
 funs:X.s₀.heap.FunFrames X.base X.outer
 frf:∀ b∈X.fs,X.H₀ b=none
structure Inv (X:Cx)(pins:List (Addr×Obj))(σ:List (Option V))(H:Hp)(s:uS):Prop where
 ok:X.Ok
 os:s.os=X.s₀.os
 bare:qX s.gens
 base:Un X.fs X.ex X.H₀ H X.s₀.heap s.heap
 loc:∃ m,s.heap.Ns X.env.locals m/\∀ (i:Nat) (x:Str) (v:V),X.N[i]?=some x->σ[i]?=some (some v)->Vis X.env.scope x->∃ u,ZS v u/\Look X.env s.heap m x u
 cell:∀ x c,X.env.cells.lookup x=some c->∃ v,s.heap.IsCell c v
 free:H X.env.locals=none
 freeC:∀ x c,X.env.cells.lookup x=some c->H c=none
 pin:∀ p∈X.pn++pins,s.heap.get? p.1=some p.2/\H p.1=none/\p.1≠X.env.locals/\p.1∉X.fs/\∀ v,p.2.data≠.cell v
 hok:HOk X.prog X.w H s.heap
 len:σ.length=X.N.length
variable{g':Array GenState}{t' i:Nat}{d':Drawn}{ch:List Addr}{it:Addr}{x:Str}{M:Model}{A:uq}{E:uT->uS->Prop}{v:V}{u:uT}
section
variable {X:Cx}{pins:List (Addr×Obj)}{σ:List (Option V)}{H':Hp}{s:uS}
theorem Cx.Ok.nofr (ok:X.Ok)(e:X.base.get? b=some o):b∉X.fs:=fun hb=>by
 have:=(ok.funs.mem hb).1;rw[e]at this;cases this
theorem Inv.bs (I:Inv X pins σ H s):∀ b o,X.base.get? b=some o->s.heap.get? b=some o/\H b=none:=fun b o e=>
 ⟨I.base.keep b o (I.ok.bs b o e).1 (I.ok.bs b o e).2 (I.ok.nofr e) (I.ok.noex b o e),I.base.free b o (I.ok.bs b o e).1 (I.ok.bs b o e).2 (I.ok.noex b o e)⟩
theorem Inv.bk (I:Inv X pins σ H s):∀ b o,X.base.get? b=some o->s.heap.get? b=some o:=fun b o e=>(I.bs b o e).1
theorem Inv.mod (I:Inv X pins σ H s):Mod X.K X.mg X.base:=I.ok.mod
theorem Inv.kIn (I:Inv X pins σ H s):X.K.In s.heap:=I.ok.mod.kin.keeps I.bk
theorem Inv.lt (I:Inv X pins σ H s):X.env.locals<s.heap.objs.size:=let ⟨_,hn,_⟩:=I.loc;hn.lt
theorem Inv.sz (I:Inv X pins σ H s):X.s₀.heap.objs.size<=s.heap.objs.size:=xQ I.ok.above (wK I.lt)
theorem Inv.nofs (I:Inv X pins σ H s)(h:s.heap.objs.size<=a):a∉X.fs:=fun hb=>by
 obtain⟨_,o,ho,_⟩:=I.ok.funs.mem hb;exact absurd (yz (yM ho) (xQ I.sz h)) (xN _)
theorem Inv.cne (I:Inv X pins σ H s):∀ x c,X.env.cells.lookup x=some c->c≠X.env.locals:=fun x c e z=>by
 obtain⟨v,o,ho,hd⟩:=I.cell x c e;obtain⟨m,⟨o',es,ep,oH,lY,_⟩,_⟩:=I.loc;rw[z,oH]at ho;cases ho;rw[lY]at hd;cases hd
theorem Inv.funs (I:Inv X pins σ H s):s.heap.FunFrames X.base X.outer:=by
 have all:∀ (l:List Env),(∀ b∈frs l,b∈X.fs)->X.s₀.heap.FunFrames X.base l->s.heap.FunFrames X.base l:=by
  intro l
  induction l with
  | nil=>intro _ _;trivial
  | cons env r ih=>
   intro hs hl;obtain⟨hk,⟨L,o,hf,hn,ho,hd⟩,hr⟩:=hl;have hL:L∈X.fs:=hs L (by unfold frs;rw[wk,hf];exact xS);obtain⟨sl,e⟩:=I.base.slot L o ho (I.ok.frf L hL) hL fun z=>I.ok.exfs L z hL;exact⟨hk,⟨L,_,hf,hn,e,hd⟩,ih (fun b hb=>hs b (by unfold frs;rw[wk,hf];exact yx _ hb)) hr⟩
 exact all X.outer (fun _ hb=>hb) I.ok.funs
theorem Inv.stack (I:Inv X pins σ H s):s.heap.FunFrames X.base X.stack:=by
 rcases I.ok.stk with e|⟨e,hf⟩;rw[e];exact I.funs;rw[e];obtain⟨m,hn,_⟩:=I.loc;refine .cons (by rw[I.ok.kind];decide) hf hn ?_ I.funs;exact vD (xQ I.ok.bsz I.ok.above)
theorem Inv.stkSub (I:Inv X pins σ H s):∀ b∈frs X.stack,b∈X.env.locals::X.fs:=fun b hb=>by
 rcases I.ok.stk with e|⟨e,hf⟩;rw[e]at hb;exact yx _ hb;rw[e]at hb;unfold frs at hb;rw[wk,hf]at hb;exact hb
theorem Inv.stkFree (I:Inv X pins σ H s):∀ b∈frs X.stack,H b=none:=fun b hb=>by
 rcases yl.mp (I.stkSub b hb) with e|hb;rw[e];exact I.free;obtain⟨_,o,ho,_⟩:=I.ok.funs.mem hb;exact I.base.free b o ho (I.ok.frf b hb) fun z=>I.ok.exfs b z hb
theorem Inv.step (I:Inv X pins σ H s)
  (jo:∀ b∈ch,(b∈X.ex\/X.s₀.heap.objs.size<=b)/\b≠X.env.locals/\(∀ x c,X.env.cells.lookup x=some c->c≠b)/\∀ p∈X.pn++pins,p.1≠b)
  (keep:∀ b o,b≠X.env.locals->b∉X.fs->b∉ch->s.heap.get? b=some o->H b=none->h'.get? b=some o)
  (slot:∀ b o,b≠X.env.locals->b∈X.fs->b∉ch->s.heap.get? b=some o->H b=none->∃ sl,h'.get? b=some { o with slots:=sl }) (free:∀ b o,b∉ch->s.heap.get? b=some o->H b=none->H' b=none)
  (there:∀ b o,b∉ch->s.heap.get? b=some o->∃ o',h'.get? b=some o')
  (tups:∀ b xs,H b=some (.tup xs)->H' b=some (.tup xs)) (frzs:∀ b o u,H b=some (.frz o u)->H' b=some (.frz o u)) (tbls:∀ b ps,H b=some (.tbl ps)->∃ more,H' b=some (.tbl (ps++more)))
  (ns:∀ m,s.heap.Ns X.env.locals m->h'.Ns X.env.locals m) (hok:HOk X.prog X.w H' h') (hg:qX g') :
  Inv X pins σ H' { s with heap:=h',gens:=g',drawn:=d',toks:=t' }:=by
 have neL:∀ b o,X.s₀.heap.get? b=some o->b≠X.env.locals:=fun b o e=>yv (yz (yM e) I.ok.above);have fG:∀ b o,X.s₀.heap.get? b=some o->b∉X.ex->b∉ch:=fun b o e hx hb=>by
  rcases (jo b hb).1 with z|z;exact hx z;exact absurd (yz (yM e) z) (xN _)
 have cellK:∀ x c,X.env.cells.lookup x=some c->∀ v,s.heap.IsCell c v->h'.IsCell c v:=fun x c e v ⟨o,ho,hd⟩=>by
  have cO:c∉ch:=fun z=>(jo c z).2.2.1 x c e rfl;by_cases hc:c∈X.fs;obtain⟨sl,q⟩:=slot c o (I.cne x c e) hc cO ho (I.freeC x c e);exact⟨_,q,hd⟩;exact⟨o,keep c o (I.cne x c e) hc cO ho (I.freeC x c e),hd⟩
 refine⟨I.ok,I.os,hg,⟨fun b o e n hb hx=>?_,fun b o e n hb hx=>?_,fun b o e n hx=>?_,fun b o e hx=>?_,fun b xs e=>tups b xs (I.base.tups b xs e),fun b o xs e=>frzs b o xs (I.base.frzs b o xs e),fun b ps e=>?_⟩,?_,fun x c e=>?_,?_,fun x c e=>?_,fun p hp=>?_,hok,I.len⟩;exact keep b o (neL b o e) hb (fG b o e hx) (I.base.keep b o e n hb hx) (I.base.free b o e n hx);obtain⟨sl,e1⟩:=I.base.slot b o e n hb hx;obtain⟨c9,e2⟩:=slot b _ (neL b o e) hb (fG b o e hx) e1 (I.base.free b o e n hx);exact⟨c9,e2⟩;obtain⟨o',e1⟩:=I.base.there b o e hx;exact free b o' (fG b o e hx) e1 (I.base.free b o e n hx);obtain⟨o',e1⟩:=I.base.there b o e hx;exact there b o' (fG b o e hx) e1;obtain⟨m1,e1⟩:=I.base.tbls b ps e;obtain⟨m2,e2⟩:=tbls b _ e1;exact⟨m1++m2,by rw[e2,vh]⟩;obtain⟨m,hn,hl⟩:=I.loc;refine⟨m,ns m hn,fun i x v e1 e2 e3=>?_⟩;obtain⟨u,r,l⟩:=hl i x v e1 e2 e3;refine⟨u,r,?_⟩;rcases l with l|⟨k,c,e,z⟩;exact .inl l;exact .inr ⟨k,c,e,cellK x c e _ z⟩;obtain⟨v,z⟩:=I.cell x c e;exact⟨v,cellK x c e v z⟩;obtain⟨m,⟨o,_,_,ho,_⟩,_⟩:=I.loc;exact free _ o (fun z=>(jo _ z).2.1 rfl) ho I.free;obtain⟨v,o,ho,hd⟩:=I.cell x c e;exact free c o (fun z=>(jo c z).2.2.1 x c e rfl) ho (I.freeC x c e);obtain⟨e,n,ne,nf,d⟩:=I.pin p hp;have cO:p.1∉ch:=fun z=>(jo p.1 z).2.2.2 p hp rfl;exact⟨keep p.1 p.2 ne nf cO e n,free p.1 p.2 cO e n,ne,nf,d⟩
theorem Inv.un (I:Inv X pins σ H s)(u:Un X.fs [] H H' s.heap h')(hok:HOk X.prog X.w H' h'):Inv X pins σ H' { s with heap:=h',toks:=t' }:=by
 obtain⟨m,⟨o,es,ep,ho,r⟩,_⟩:=id I.loc;obtain⟨sl,hL⟩:=u.any ho I.free (by simp);exact I.step (g':=s.gens) (d':=s.drawn) (ch:=[]) (fun _ z=>nomatch z) (fun b o _ hb _ e n=>u.keep b o e n hb (by simp)) (fun b o _ hb _ e n=>u.slot b o e n hb (by simp)) (fun b o _ e n=>u.free b o e n (by simp)) (fun b o _ e=>u.there b o e (by simp)) u.tups u.frzs u.tbls (fun m' hm=>by
  obtain⟨o',es',ep',oH,r'⟩:=hm
  rw[ho]at oH;cases oH
  exact⟨_,es',ep',hL,r'⟩) hok I.bare
theorem Inv.call (I:Inv X pins σ H s)(u:Un (frs X.stack) ch H H' s.heap h')(hok:HOk X.prog X.w H' h')(hg:qX g')
  (jo:∀ b∈ch,(b∈X.ex\/X.s₀.heap.objs.size<=b)/\b≠X.env.locals/\(∀ x c,X.env.cells.lookup x=some c->c≠b)/\∀ p∈X.pn++pins,p.1≠b) :
  Inv X pins σ H' { s with heap:=h',gens:=g',drawn:=d',toks:=t' }:=by
 obtain⟨m,⟨o,es,ep,ho,r⟩,_⟩:=id I.loc;obtain⟨sl,hL⟩:=u.any ho I.free fun z=>(jo _ z).2.1 rfl;exact I.step (ch:=ch) jo (fun b o hL hb hc e n=>u.keep b o e n (fun z=>(yl.mp (I.stkSub b z)).elim hL hb) hc) (fun b o _ _ hc e n=>u.any e n hc) (fun b o hc e n=>u.free b o e n hc) (fun b o hc e=>u.there b o e hc) u.tups u.frzs u.tbls (fun m' hm=>by
  obtain⟨o',es',ep',oH,r'⟩:=hm
  rw[ho]at oH;cases oH
  exact⟨_,es',ep',hL,r'⟩) hok hg
theorem Inv.turned (I:Inv X pins σ H s)(k:∀ b o,b≠it->s.heap.get? b=some o->h'.get? b=some o)(hn:H it=none)(hL:it≠X.env.locals)
  (h1:it∈X.ex\/X.s₀.heap.objs.size<=it) (h2:∀ x c,X.env.cells.lookup x=some c->c≠it) (h3:∀ p∈X.pn++pins,p.1≠it):Inv X pins σ H { s with heap:=h',toks:=t' }:=by
 have cP:∀ b u,H b=some u->b≠it:=fun b u e z=>by rw[z,hn]at e;cases e
 refine I.step (g':=s.gens) (d':=s.drawn) (ch:=[it]) (fun b hb=>?_) (fun b o _ _ hc e _=>k b o (fun z=>hc (by simp[z])) e) (fun b o _ _ hc e _=>⟨o.slots,k b o (fun z=>hc (by simp[z])) e⟩) (fun _ _ _ _ n=>n)
  (fun b o hc e=>⟨o,k b o (fun z=>hc (by simp[z])) e⟩) (fun _ _ e=>e) (fun _ _ _ e=>e) (fun b ps e=>⟨#[],by rw[e];simp⟩) (fun m hm=>?_) (fun b u e=>?_) I.bare
 have e:b=it:=by simpa using hb
 subst e;exact⟨h1,hL,h2,h3⟩;obtain⟨o,es,ep,ho,r⟩:=hm;exact⟨o,es,ep,k _ o (uc hL) ho,r⟩;refine (I.hok b u e).stay (fun c v hc q=>k c v ?_ q) (fun _ q=>q) fun _ _ q=>q;rcases hc with z|z;rw[z];exact cP b u e;exact cP c _ z
theorem Inv.tok (I:Inv X pins σ H s)(t:Nat):Inv X pins σ H { s with toks:=t }:=I.un (h':=s.heap) (t':=t) Un.refl I.hok
theorem Inv.kept {t':Nat}(I:Inv X pins σ H s)(k:∀ b u,s.heap.get? b=some u->h'.get? b=some u):Inv X pins σ H { s with heap:=h',toks:=t' }:=I.un (Un.kept k) (I.hok.kept k)
theorem Inv.laid {a:Addr}{o:HO}{t':Nat}(I:Inv X pins σ H s)(k:∀ b u,s.heap.get? b=some u->h'.get? b=some u)(hp:s.heap.objs.size<=a)(new:ZC X.prog X.w (upd H a o) h' a o) :
  Inv X pins σ (upd H a o) { s with heap:=h',toks:=t' }:=I.un (Un.laid k hp (I.hok.fresh hp)) (I.hok.laid k hp new)
theorem Inv.write {x e:Addr}{o:HO}{t':Nat}(I:Inv X pins σ H s)(mu:Mut (H x))(he:e=x\/H e=some (.own x))(k:∀ b u,b≠e->s.heap.get? b=some u->h'.get? b=some u)(fj:∃ u,h'.get? e=some u)
  (new:ZC X.prog X.w (upd H x o) h' x o):Inv X pins σ (upd H x o) { s with heap:=h',toks:=t' }:=I.un (Un.write mu he k fj) (I.hok.write mu he k fj new)
theorem Inv.pins_of {pI:List (Addr×Obj)}(I:Inv X pins σ H s)(h:∀ p∈pI,s.heap.get? p.1=some p.2/\H p.1=none/\p.1≠X.env.locals/\p.1∉X.fs/\∀ v,p.2.data≠.cell v):Inv X pI σ H s:=
 ⟨I.ok,I.os,I.bare,I.base,I.loc,I.cell,I.free,I.freeC,fun p hp=>(yo.mp hp).elim (fun z=>I.pin p (xP _ z)) (h p),I.hok,I.len⟩
theorem Qq {N:List Str}(hN:N.Nodup){j:Nat}(a:N[i]?=some x)(b:N[j]?=some x):i=j:=by
 obtain⟨h1,e1⟩:=yP.mp a;obtain⟨h2,e2⟩:=yP.mp b;exact (List.getElem_inj hN).mp (e1.trans e2.symm)
theorem NV {Q:Unit->uS->Prop}(I:Inv X pins σ H s)(hN:X.N.Nodup)(hi:X.N[i]?=some x)(hx:Loc X.env.scope x)(r:ZS v u)
  (h:∀ s',Inv X pins (σ.set i (some v)) H s'->(∃ a,xb a s.heap s'.heap/\(a=X.env.locals\/X.env.cells.lookup x=some a))->Q () s') (hf:X.fn x=true\/X.env.scope.names.lookup x=some .local:=by first|exact .inl rfl|exact .inr rfl|assumption):uP M A (storeName X.env x u) Q E s:=by
 obtain⟨m,hn,hl⟩:=id I.loc;have gf:(X.env.scope.kind == .class||(X.env.scope.kind == .module&&X.env.locals != X.env.globals))=false:=by rw[I.ok.kind];rfl
 have cf:i<σ.length:=by rw[I.len];exact (yP.mp hi).1
 have cne:=I.cne;have tracked:∀ {a:Addr} {h':Heap},(∃ o,s.heap.get? a=some o/\H a=none)->xb a s.heap h'->HOk X.prog X.w H h':=fun {a h'} ha hs b ob e=>by
  obtain⟨_,_,hfree⟩:=ha;refine (I.hok b ob e).stay (fun c w' hc q=>(hs.2 c ?_).trans q) (fun _ q=>q) fun _ _ q=>q;rintro rfl;rcases hc with rfl|hc;rw[hfree]at e;cases e;rw[hfree]at hc;cases hc
 rcases hx with hk|hk;refine wpAny_storeName_local hk hn (fun h' hn' hs=>?_) gf;obtain⟨oL,_,_,hoL,_⟩:=id hn;refine h _ ⟨I.ok,I.os,I.bare,⟨fun b o e n hb hx=>?_,fun b o e n hb hx=>?_,I.base.free,fun b o e hx=>?_,I.base.tups,I.base.frzs,I.base.tbls⟩,⟨_,hn',fun j y v' e1 e2 e3=>?_⟩,fun y c e=>?_,I.free,I.freeC,fun p hp=>?_,tracked ⟨oL,hoL,I.free⟩ hs,by simpa using I.len⟩ ⟨_,hs,.inl rfl⟩;exact (hs.2 b (yv (yz (yM e) I.ok.above))).trans (I.base.keep b o e n hb hx);obtain⟨sl,e1⟩:=I.base.slot b o e n hb hx;exact⟨sl,(hs.2 b (yv (yz (yM e) I.ok.above))).trans e1⟩;obtain⟨o',e1⟩:=I.base.there b o e hx;exact⟨o',(hs.2 b (yv (yz (yM e) I.ok.above))).trans e1⟩;by_cases hj:j=i;subst hj;rw[hi]at e1;cases e1;rw[xh cf]at e2;cases e2;exact⟨u,r,.inl ⟨hk,by simp⟩⟩;rw[wV (uc hj)]at e2;obtain⟨u',r',q⟩:=hl j y v' e1 e2 e3;refine⟨u',r',?_⟩;rcases q with ⟨k,e⟩|⟨k,c,e,z⟩;refine .inl ⟨k,?_⟩;have:y≠x:=fun e=>hj (Qq hN e1 (e ▸ hi));simp[this,e];exact .inr ⟨k,c,e,z.sameBut hs (cne y c e)⟩;obtain⟨w',z⟩:=I.cell y c e;exact⟨w',z.sameBut hs (cne y c e)⟩;obtain⟨e,n,ne,nf,d⟩:=I.pin p hp;exact⟨(hs.2 p.1 ne).trans e,n,ne,nf,d⟩;have hfn:X.fn x=true:=by
  rcases hf with z|z;exact z;rw[z]at hk;cases hk
 obtain⟨c,hc⟩:=I.ok.has x (.inl hk);obtain⟨w',z⟩:=I.cell x c hc;refine wpAny_storeName_cell I.ok.kind hk hc z (fun h' mG hs=>?_);obtain⟨oc,hoc,hocd⟩:=id z;refine h { s with heap:=h' } ⟨I.ok,I.os,I.bare,⟨fun b o e n hb hx=>?_,fun b o e n hb hx=>?_,I.base.free,fun b o e hx=>?_,I.base.tups,I.base.frzs,I.base.tbls⟩,⟨m,hn.sameBut hs (uc (cne x c hc)),fun j y v' e1 e2 e3=>?_⟩,fun y c' e=>?_,I.free,I.freeC,fun p hp=>?_,tracked ⟨oc,hoc,I.freeC x c hc⟩ hs,by simpa using I.len⟩ ⟨c,hs,.inr hc⟩;exact (hs.2 b (yv (yz (yM e) (I.ok.cab x c hfn hc)))).trans (I.base.keep b o e n hb hx);obtain⟨sl,e1⟩:=I.base.slot b o e n hb hx;exact⟨sl,(hs.2 b (yv (yz (yM e) (I.ok.cab x c hfn hc)))).trans e1⟩;obtain⟨o',e1⟩:=I.base.there b o e hx;exact⟨o',(hs.2 b (yv (yz (yM e) (I.ok.cab x c hfn hc)))).trans e1⟩;by_cases hj:j=i;subst hj;rw[hi]at e1;cases e1;rw[xh cf]at e2;cases e2;exact⟨u,r,.inr ⟨.inl hk,c,hc,mG⟩⟩;rw[wV (uc hj)]at e2;obtain⟨u',r',q⟩:=hl j y v' e1 e2 e3;refine⟨u',r',?_⟩;rcases q with q|⟨k,c',e,z'⟩;exact .inl q;refine .inr ⟨k,c',e,z'.sameBut hs ?_⟩;rintro rfl;exact hj (Qq hN e1 (I.ok.inj _ _ _ e hc ▸ hi));by_cases hcc:c'=c;subst hcc;exact⟨_,mG⟩;obtain⟨w2,z2⟩:=I.cell y c' e;exact⟨w2,z2.sameBut hs hcc⟩;obtain⟨e,n,ne,nf,d⟩:=I.pin p hp;refine⟨(hs.2 p.1 ?_).trans e,n,ne,nf,d⟩;intro q;rw[q,hoc]at e;have q':oc=p.2:=uz.inj e;exact d w' (by rw[<-q'];exact hocd)
theorem SI {Q:Unit->uS->Prop}(I:Inv X pins σ H s)(hN:X.N.Nodup)(hi:X.N[i]?=some x)(hx:Loc X.env.scope x)(r:ZS v u)
  (h:∀ s',Inv X pins (σ.set i (some v)) H s'->Q () s') (hf:X.fn x=true\/X.env.scope.names.lookup x=some .local:=by first|exact .inl rfl|exact .inr rfl|assumption):uP M A (storeName X.env x u) Q E s:=
 NV I hN hi hx r (fun s' I' _=>h s' I') hf
theorem Inv.call' {s':uS}(I:Inv X pins σ H s)(ho:s'.os=s.os)(u:Un (frs X.stack) ch H H' s.heap s'.heap)(hok:HOk X.prog X.w H' s'.heap)(hg:qX s'.gens)
  (jo:∀ b∈ch,(b∈X.ex\/X.s₀.heap.objs.size<=b)/\b≠X.env.locals/\(∀ x c,X.env.cells.lookup x=some c->c≠b)/\∀ p∈X.pn++pins,p.1≠b):Inv X pins σ H' s':=by
 obtain⟨h',g',d',t',o'⟩:=s';have e:o'=s.os:=ho;subst e;exact I.call (g':=g') (t':=t') (d':=d') u hok hg jo
end
noncomputable abbrev XK:=uT->Option Addr->Hp->Prop
noncomputable abbrev St:=List (Option V)
noncomputable abbrev VK:=V->Hp->Prop
noncomputable abbrev TE:=St->Hp->VK->Prop
noncomputable abbrev TT:=St->Hp->(Bool->Hp->Prop)->Prop
noncomputable abbrev TA:=St->Hp->(List V->Hp->Prop)->Prop
structure Zc where
 nx:St->Hp->Prop
 rt:VK
 bk:St->Hp->Prop:=fun _ _=>False
 ct:St->Hp->Prop:=fun _ _=>False
noncomputable abbrev TS:=Zc->St->Hp->Prop
def EP (X:Cx)(pins:List (Addr×Obj))(σ:St)(Q:VK)(u:uT)(s':uS):Prop:=∃ v H',Inv X pins σ H' s'/\ZS v u/\Q v H'
def TP (X:Cx)(pins:List (Addr×Obj))(σ:St)(Q:Bool->Hp->Prop)(b:Bool)(s':uS):Prop:=∃ H',Inv X pins σ H' s'/\Q b H'
def AP (X:Cx)(pins:List (Addr×Obj))(σ:St)(Q:List V->Hp->Prop)(us:List uT)(s':uS):Prop:=∃ vs H',Inv X pins σ H' s'/\ZX vs us/\Q vs H'
def SP (X:Cx)(pins:List (Addr×Obj))(D:Zc)(f:Flow)(s':uS):Prop:=
 match f with
 | .next=>∃ σ' H',Inv X pins σ' H' s'/\D.nx σ' H'
 | .brk=>∃ σ' H',Inv X pins σ' H' s'/\D.bk σ' H'
 | .cont=>∃ σ' H',Inv X pins σ' H' s'/\D.ct σ' H'
 | .ret u=>∃ v σ' H',Inv X pins σ' H' s'/\ZS v u/\D.rt v H'
def PE (X:Cx)(e:Expr)(t:TE):Prop:=
 ∀ (pins:List (Addr×Obj)) (s:uS) (σ:St) (H:Hp) (Q:VK),Inv X pins σ H s->t σ H Q->uP (uM X.prog X.w) X.A (eval e X.env) (EP X pins σ Q) X.xe s
def PT (X:Cx)(e:Expr)(t:TT):Prop:=
 ∀ (pins:List (Addr×Obj)) (s:uS) (σ:St) (H:Hp) (Q:Bool->Hp->Prop),Inv X pins σ H s->t σ H Q->uP (uM X.prog X.w) X.A (isTrue e X.env (eval e X.env)) (TP X pins σ Q) X.xe s
def PW (X:Cx)(e:Expr)(t:TT):Prop:=
 ∀ (whole:Sem uT) (pins:List (Addr×Obj)) (s:uS) (σ:St) (H:Hp) (Q:Bool->Hp->Prop),Inv X pins σ H s->t σ H Q->uP (uM X.prog X.w) X.A (isTrue e X.env whole) (TP X pins σ Q) X.xe s
variable{X:Cx}{e:Expr}
theorem PW.pt {t:TT}(h:PW X e t):PT X e t:=h _
def PA (X:Cx)(es:List Expr)(t:TA):Prop:=
 ∀ (pos:Pos) (pins:List (Addr×Obj)) (s:uS) (σ:St) (H:Hp) (Q:List V->Hp->Prop),Inv X pins σ H s->t σ H Q->uP (uM X.prog X.w) X.A (spliced (sL pos (uB es X.env))) (AP X pins σ Q) X.xe s
def PS (X:Cx)(st:Stmt)(t:TS):Prop:=
 ∀ (pins:List (Addr×Obj)) (s:uS) (σ:St) (H:Hp) (D:Zc),Inv X pins σ H s->t D σ H->uP (uM X.prog X.w) X.A (exec st X.env) (SP X pins D) X.xe s
def PSs (X:Cx)(st:List Stmt)(t:TS):Prop:=
 ∀ (pins:List (Addr×Obj)) (s:uS) (σ:St) (H:Hp) (D:Zc),Inv X pins σ H s->t D σ H->uP (uM X.prog X.w) X.A (execs st X.env) (SP X pins D) X.xe s
variable{s:uS}
theorem thn {α:Type}{t:Sem α}{Q Q':α->uS->Prop}(h:uP M A t Q E s)(hQ:∀ a s,Q a s->Q' a s):uP M A t Q' E s:=uA h hQ fun _ _ x=>x
variable{pos:Pos}{pins:List (Addr×Obj)}{σ:St}{Q:uT->uS->Prop}{op:CmpOp}{c:Expr}{ta:TE}
section
def ZN (i:Nat):TE:=fun σ H Q=>∃ v,σ[i]?=some (some v)/\Q v H
def tC (v:V):TE:=fun _ H Q=>Q v H
theorem AF (hN:X.N[i]?=some x)(hv:Vis X.env.scope x)(hd:(x==("__debug__":Str))=false:=by decide)(oP:(x==("__classdict__":Str))=false:=by decide):PE X (.Name x pos) (ZN i):=by
 intro pins s σ H Q I h;obtain⟨v,e,h⟩:=h;obtain⟨m,hn,hl⟩:=I.loc;obtain⟨u,r,l⟩:=hl i x v hN e hv;have fin:EP X pins σ Q u s:=⟨v,H,I,r,h⟩;rcases l with ⟨hk,hm⟩|⟨hk,c,hc,hcell⟩;exact wpAny_Name (wpAny_loadName_local I.ok.kind hk hn hm fin) hd;rcases hk with hk|hk;exact wpAny_Name (wpAny_loadName_cell I.ok.kind hk hc hcell fin) hd;exact wpAny_Name (wpAny_loadName_free I.ok.kind hk hc hcell fin oP) hd
theorem Z1 {i j pos}:PE X (.Constant (.int i) j pos) (tC (.int i)):=fun _ _ _ H _ I h=>wpAny_Constant_int ⟨.int i,H,I.tok _,⟨_,rfl⟩,h⟩
theorem Wy {b j pos}:PE X (.Constant (.bool b) j pos) (tC (.bl b)):=fun _ _ _ H _ I h=>Constant_bool ⟨.bl b,H,I,rfl,h⟩
theorem AK {j pos}:PE X (.Constant .none j pos) (tC .non):=fun _ _ _ H _ I h=>Constant_none ⟨.non,H,I,rfl,h⟩
theorem ZQ {x j pos}:PE X (.Constant (.str x) j pos) (tC (.str x)):=fun _ _ _ H _ I h=>Calls.Constant_str ⟨.str x,H,I.tok _,⟨_,rfl⟩,h⟩
def Gl (X:Cx)(x:Str):Prop:=X.env.kindOf x=some .globalImplicit
theorem Xz (I:Inv X pins σ H s)(hg:Gl X x)(hm:X.mg x=some u)(h:Q u s)
  (hd:(x==("__debug__":Str))=false:=by decide):uP (uM X.prog X.w) X.A (eval (.Name x pos) X.env) Q E s:=
 Calls.Name_function_global I.ok.kind hg (Calls.loadGlobal_global (by rw[I.ok.glob];exact I.mod.glob.keeps I.bk) hm h) hd
theorem Wc (I:Inv X pins σ H s)(hg:Gl X x)(hm:X.mg x=none)(hv:uh x=some u)(h:Q u s)
  (hn:x≠"__name__":=by decide) (hd:(x==("__debug__":Str))=false:=by decide):uP (uM X.prog X.w) X.A (eval (.Name x pos) X.env) Q E s:=by
 obtain⟨mb,h1,h2⟩:=I.mod.blt;exact Calls.Name_function_global I.ok.kind hg (Calls.loadGlobal_builtin (by rw[I.ok.glob];exact I.mod.glob.keeps I.bk) hm (by rw[I.ok.blt];exact h1.keeps I.bk) ((h2 x hn).trans hv) h) hd
theorem Zv (hg:Gl X x)(hm:X.mg x=some u)(r:ZS v u)(hd:(x==("__debug__":Str))=false:=by decide):PE X (.Name x pos) (tC v):=
 fun _ _ _ H _ I h=>Xz I hg hm ⟨v,H,I,r,h⟩ hd
theorem Uo (hg:Gl X x)(hm:X.mg x=none)(hv:uh x=some u)(r:ZS v u)(hn:x≠"__name__":=by decide)(hd:(x==("__debug__":Str))=false:=by decide):PE X (.Name x pos) (tC v):=
 fun _ _ _ H _ I h=>Wc I hg hm hv ⟨v,H,I,r,h⟩ hn hd
variable {a b:Expr}{tb:TE}
def PC (X:Cx)(op:CmpOp)(a b:Expr)(t:TE):Prop:=
 ∀ (pins:List (Addr×Obj)) (s:uS) (σ:St) (H:Hp) (Q:VK),Inv X pins σ H s->t σ H Q->
  uP (uM X.prog X.w) X.A (eval a X.env) (fun v s₁=>uP (uM X.prog X.w) X.A (eval b X.env) (fun u s₂=>uP (uM X.prog X.w) X.A (tV op v u) (EP X pins σ Q) X.xe s₂) X.xe s₁) X.xe s
def tB (t:TE):TT:=fun σ H Q=>t σ H fun x H1=>∃ c,x=.bl c/\Q c H1
theorem Pg {t:TE}(h:PC X op a b t)(h1:qN op b=false:=by first|exact cT _ (by decide) (by decide)|rfl):PT X (.Compare a [op] [b] pos) (tB t):=by
 intro pins s σ H Q I hw;refine wpAny_isTrue_Compare1 (thn (h pins s σ H _ I hw) fun v s1 h1=>thn h1 fun u s2 h2=>thn h2 fun c s3 ⟨x,H1,I1,r1,q1⟩=>?_) h1;obtain⟨d,rfl,q⟩:=q1;cases r1;exact tU ⟨H1,I1,q⟩
theorem Yo {t:TE}(h:PE X e t)(he:∀ whole,isTrue e X.env whole=(do let v <-whole;standAt e.pos;holding [v] (truthy v)):=by intro _;rfl):PT X e (tB t):=by
 intro pins s σ H Q I hw;refine isTrue_plain (thn (h pins s σ H _ I hw) fun v s1 ⟨x,H1,I1,r1,q1⟩=>?_) (he _);obtain⟨d,rfl,q⟩:=q1;cases r1;exact tU ⟨H1,I1,q⟩
variable {tA ar:TT}{rest:List Expr}
def tAnd (t u:TT):TT:=fun σ H Q=>t σ H fun c H1=>if c=true then u σ H1 Q else Q false H1
def tOr (t u:TT):TT:=fun σ H Q=>t σ H fun c H1=>if c=true then Q true H1 else u σ H1 Q
def Ow (t:TT):TT:=fun σ H Q=>t σ H fun c H1=>Q (!c) H1
theorem P0 (ha:PT X a tA):PW X (.BoolOp .And [a] pos) tA:=by
 intro wh pins s σ H Q I h;refine isTrue_and (thn (ha pins s σ H Q I h) fun c s1 e=>?_);cases c with
 | true=>exact isTrue_and_nil e
 | false=>exact e
theorem Ug (ha:PT X a tA):PW X (.BoolOp .Or [a] pos) tA:=by
 intro wh pins s σ H Q I h;refine isTrue_or (thn (ha pins s σ H Q I h) fun c s1 e=>?_);cases c with
 | false=>exact isTrue_or_nil e
 | true=>exact e
theorem RD (ha:PT X a tA)(hb:PW X (.BoolOp .And (b::rest) pos) ar):PW X (.BoolOp .And (a::b::rest) pos) (tAnd tA ar):=by
 intro wh pins s σ H Q I h;refine isTrue_and (thn (ha pins s σ H _ I h) fun c s1 ⟨H1,I1,q1⟩=>?_);cases c with
 | true=>exact hb wh pins s1 σ H1 Q I1 q1
 | false=>exact⟨H1,I1,q1⟩
theorem V6 (ha:PT X a tA)(hb:PW X (.BoolOp .Or (b::rest) pos) ar):PW X (.BoolOp .Or (a::b::rest) pos) (tOr tA ar):=by
 intro wh pins s σ H Q I h;refine isTrue_or (thn (ha pins s σ H _ I h) fun c s1 ⟨H1,I1,q1⟩=>?_);cases c with
 | true=>exact⟨H1,I1,q1⟩
 | false=>exact hb wh pins s1 σ H1 Q I1 q1
theorem Xv (ha:PT X a tA):PT X (.UnaryOp .Not a pos) (Ow tA):=by
 intro pins s σ H Q I h;exact isTrue_not (ha pins s σ H (fun c H1=>Q (!c) H1) I h)
def yY (ta tb:TE):TE:=fun σ H Q=>ta σ H fun x H1=>∃ c,x=.bl c/\if c=true then tb σ H1 Q else Q (.bl false) H1
def zT (ta:TE):TE:=fun σ H Q=>ta σ H fun x H1=>∃ c,x=.bl c/\Q (.bl (!c)) H1
theorem Xx {op}{t:TE}(h:PE X a t):PE X (.BoolOp op [a] pos) t:=fun pins s σ H Q I hw=>BoolOp_one (h pins s σ H Q I hw)
theorem X0 (ha:PE X a ta)(hb:PE X (.BoolOp .And (b::rest) pos) tb):PE X (.BoolOp .And (a::b::rest) pos) (yY ta tb):=by
 intro pins s σ H Q I h;refine BoolOp_and (thn (ha pins s σ H _ I h) fun v s1 ⟨x,H1,I1,r1,q1⟩=>?_);obtain⟨c,rfl,q1⟩:=q1;cases r1;refine tU ?_;cases c with
 | true=>exact hb pins s1 σ H1 Q I1 q1
 | false=>exact⟨.bl false,H1,I1,Z,q1⟩
theorem KZ (ha:PE X a ta):PE X (.UnaryOp .Not a pos) (zT ta):=by
 intro pins s σ H Q I h;refine UnaryOp_ (thn (ha pins s σ H _ I h) fun v s1 ⟨x,H1,I1,r1,q1⟩=>?_);obtain⟨c,rfl,q1⟩:=q1;cases r1;exact not_of (tU ⟨.bl (!c),H1,I1,rfl,q1⟩)
def tIf (t:TT)(ta tb:TE):TE:=fun σ H Q=>t σ H fun c H1=>if c=true then ta σ H1 Q else tb σ H1 Q
theorem M7 (hc:PT X c tA)(ha:PE X a ta)(hb:PE X b tb):PE X (.IfExp c a b pos) (tIf tA ta tb):=by
 intro pins s σ H Q I h;refine wpAny_IfExp (thn (hc pins s σ H _ I h) fun d s1 ⟨H1,I1,q1⟩=>?_);cases d with
 | true=>exact ha pins s1 σ H1 Q I1 q1
 | false=>exact hb pins s1 σ H1 Q I1 q1
end
def SqL (K:yS)(H:Hp)(a:Addr)(xs:List V):Prop:=
 Rd H a (.lst xs)\/
  ∃ (o:Obj) (pL:Array uT) (n:Nat),K.lookup a=some o/\o.cls=.type "list"/\o.dict=none/\o.data=.seq pL n/\pL.size<=uR/\ZX xs pL.toList
def SqT (K:yS)(H:Hp)(a:Addr)(xs:List V):Prop:=
 Rd H a (.tup xs)\/
  ∃ (o:Obj) (pL:Array uT) (n:Nat),K.lookup a=some o/\o.cls=.type "tuple"/\o.data=.seq pL n/\pL.size<=uR/\ZX xs pL.toList
noncomputable def absV:uT->Option V
 | .none=>some .non
 | .bool b=>some (.bl b)
 | .int i _=>some (.int i)
 | .str x _=>some (.str x)
 | .bytes b _=>some (.byt b)
 | .float b _=>some (.flt b)
 | .ref a=>some (.ref a)
 | .type n=>some (.ty n)
 | _=>none
theorem ZS.abs {x:V}(r:ZS x u):absV u=some x:=by
 cases x with
 | non=>cases r;rfl
 | bl _=>cases r;rfl
 | int _=>obtain⟨t,rfl⟩:=r;rfl
 | str _=>obtain⟨t,rfl⟩:=r;rfl
 | byt _=>obtain⟨t,rfl⟩:=r;rfl
 | flt _=>obtain⟨t,rfl⟩:=r;rfl
 | ref _=>cases r;rfl
 | ty _=>cases r;rfl
theorem ZS.inj {x y:V}{u:uT}(r:ZS x u)(q:ZS y u):x=y:=uz.inj (r.abs.symm.trans q.abs)
theorem ZX.inj:∀ {xs ys:List V} {us:List uT},ZX xs us->ZX ys us->xs=ys
 | _,_,_,.nil,.nil=>rfl
 | _,_,_,.cons r t,.cons r' t'=>by rw[r.inj r',ZX.inj t t']
variable{K:yS}
section
variable {xs ys:List V}
theorem SqL.of (h:H a=some (.lst xs)):SqL K H a xs:=.inl (.inl h)
theorem SqT.of (h:H a=some (.tup xs)):SqT K H a xs:=.inl (.inl h)
theorem Inv.list (I:Inv X pins σ H s)(h:SqL X.K H a xs):∃ pL:List uT,ZX xs pL/\PlainL s.heap a pL.toArray/\xs.length<=uR:=by
 rcases h with h|⟨o,pL,n,hk,hc,hd,hs,hz,r⟩;obtain⟨z,pL,n,r,e⟩:=h.ok I.hok;exact⟨pL,r,⟨_,n,e,Z,Z,Z⟩,z⟩;refine⟨pL.toList,r,⟨o,n,I.kIn a o hk,hc,hd,by simpa using hs⟩,?_⟩;have e:=r.length;simp only[vy]at e;omega
theorem Inv.tuple (I:Inv X pins σ H s)(h:SqT X.K H a xs):∃ pL:List uT,ZX xs pL/\IsTup s.heap a pL.toArray/\xs.length<=uR:=by
 rcases h with h|⟨o,pL,n,hk,hc,hs,hz,r⟩;obtain⟨z,pL,r,p⟩:=h.ok I.hok;exact⟨pL,r,p,z.1⟩;refine⟨pL.toList,r,⟨o,I.kIn a o hk,hc,n,by simpa using hs⟩,?_⟩;have e:=r.length;simp only[vy]at e;omega
theorem Inv.list_inj (I:Inv X pins σ H s)(h:SqL X.K H a xs)(h':SqL X.K H a ys):xs=ys:=by
 obtain⟨pL,r,⟨o,n,e,_,_,d⟩,_⟩:=I.list h;obtain⟨its',r',⟨o',n',e',_,_,d'⟩,_⟩:=I.list h';rw[e]at e';cases e';rw[d]at d';injection d' with d1 _
 have:pL=its':=by simpa using tX Array.toList d1
 subst this;exact r.inj r'
theorem Inv.tuple_inj (I:Inv X pins σ H s)(h:SqT X.K H a xs)(h':SqT X.K H a ys):xs=ys:=by
 obtain⟨pL,r,⟨o,e,_,n,d⟩,_⟩:=I.tuple h;obtain⟨its',r',⟨o',e',_,n',d'⟩,_⟩:=I.tuple h';rw[e]at e';cases e';rw[d]at d';injection d' with d1 _
 have:pL=its':=by simpa using tX Array.toList d1
 subst this;exact r.inj r'
end
abbrev Cx.wish (X:Cx)(E:uT->uS->Prop):Cx:={ X with xe:=E }
noncomputable abbrev Cx.nox (X:Cx):Cx:=X.wish fun _ _=>False
theorem Cx.Ok.wish {X:Cx}(ok:X.Ok)(E:uT->uS->Prop):(X.wish E).Ok:=
 ⟨ok.mod,ok.kind,ok.glob,ok.blt,ok.above,ok.inj,ok.has,ok.cab,ok.hd,ok.frames,ok.stk,ok.exf,ok.bs,ok.bsz,ok.noex,ok.exfs,ok.funs,ok.frf⟩
theorem Cx.Ok.unwish (ok:(X.wish E).Ok):X.Ok:=
 ⟨ok.mod,ok.kind,ok.glob,ok.blt,ok.above,ok.inj,ok.has,ok.cab,ok.hd,ok.frames,ok.stk,ok.exf,ok.bs,ok.bsz,ok.noex,ok.exfs,ok.funs,ok.frf⟩
theorem Inv.wish (I:Inv X pins σ H s)(E:uT->uS->Prop):Inv (X.wish E) pins σ H s:=⟨I.ok.wish E,I.os,I.bare,I.base,I.loc,I.cell,I.free,I.freeC,I.pin,I.hok,I.len⟩
theorem Inv.unwish (I:Inv (X.wish E) pins σ H s):Inv X pins σ H s:=⟨I.ok.unwish,I.os,I.bare,I.base,I.loc,I.cell,I.free,I.freeC,I.pin,I.hok,I.len⟩
theorem SP.unwish {D:Zc}{f:Flow}{s':uS}(h:SP (X.wish E) pins D f s'):SP X pins D f s':=by
 cases f with
 | next=>obtain⟨σ',H',I,q⟩:=h;exact⟨σ',H',I.unwish,q⟩
 | brk=>obtain⟨σ',H',I,q⟩:=h;exact⟨σ',H',I.unwish,q⟩
 | cont=>obtain⟨σ',H',I,q⟩:=h;exact⟨σ',H',I.unwish,q⟩
 | ret u=>obtain⟨v,σ',H',I,r,q⟩:=h;exact⟨v,σ',H',I.unwish,r,q⟩
theorem PSs.nox {st:List Stmt}{t:TS}(h:PSs X.nox st t):PSs X st t:=fun pins s σ H D I hw=>
 uA (h pins s σ H D (I.wish _) hw) (fun _ _ q=>q.unwish) fun _ _ z=>uj z
section
variable {st:Stmt}{rest:List Stmt}{t u:TS}{te:TE}
def O5:TS:=fun D σ H=>D.nx σ H
def Yw (t u:TS):TS:=fun D σ H=>t { D with nx:=u D } σ H
theorem ZH:PSs X [] O5:=fun _ _ σ H _ I h=>rE ⟨σ,H,I,h⟩
theorem Z4 (h1:PS X st t)(h2:PSs X rest u):PSs X (st::rest) (Yw t u):=by
 intro pins s σ H D I h;refine wpAny_execs_cons (thn (h1 pins s σ H { D with nx:=u D } I h) fun f s1 q=>?_);cases f with
 | next=>
  obtain⟨σ',H',I',q⟩:=q;exact h2 pins s1 σ' H' D I' q
 | ret v=>exact q
 | brk=>exact q
 | cont=>exact q
theorem Z3 (h1:PS X st t):PSs X [st] t:=by
 intro pins s σ H D I h;refine wpAny_execs_cons (thn (h1 pins s σ H D I h) fun f s1 q=>?_);cases f with
 | next=>exact rE q
 | ret v=>exact q
 | brk=>exact q
 | cont=>exact q
theorem Inv.quiet (I:Inv X pins σ H s):interactive X.env=false:=by simp[interactive,I.ok.kind]
def Kj (te:TE):TS:=fun D σ H=>te σ H fun _ H1=>D.nx σ H1
theorem Zq (he:PE X e te)(hs:rW e none pos.line X.env=pure false:=by rfl):PS X (.Expr e pos) (Kj te):=by
 intro pins s σ H D I h;exact wpAny_Expr_any (thn (he pins s σ H _ I h) fun v s1 ⟨x,H1,I1,r1,q1⟩=>⟨σ,H1,I1,q1⟩) I.quiet hs
def Q3 (te:TE):TS:=fun D σ H=>te σ H D.rt
theorem ZR (he:PE X e te):PS X (.Return (some e) pos) (Q3 te):=by
 intro pins s σ H D I h;exact wpAny_Return_some (thn (he pins s σ H _ I h) fun v s1 ⟨x,H1,I1,r1,q1⟩=>⟨x,σ,H1,I1,r1,q1⟩)
def zG:TS:=fun D _ H=>D.rt .non H
theorem D3:PS X (.Return none pos) zG:=fun _ _ σ H _ I h=>wpAny_Return_none ⟨.non,σ,H,I,rfl,h⟩
def Q6 (c:TT)(t u:TS):TS:=fun D σ H=>c σ H fun b H1=>if b=true then t D σ H1 else u D σ H1
theorem ZI {a b:List Stmt}{tc:TT}(hc:PT X c tc)(ha:PSs X a t)(hb:PSs X b u):PS X (.If c a b pos) (Q6 tc t u):=by
 intro pins s σ H D I h;refine wpAny_If (thn (hc pins s σ H _ I h) fun d s1 ⟨H1,I1,q1⟩=>?_);cases d with
 | true=>exact ha pins s1 σ H1 D I1 q1
 | false=>exact hb pins s1 σ H1 D I1 q1
def BR:TS:=fun _ _ _=>False
theorem XO {sts:List Stmt}:PSs X sts BR:=fun _ _ _ _ _ _ h=>h.elim
end
noncomputable abbrev TG:=V->St->Hp->(St->Hp->Prop)->Prop
noncomputable abbrev TGs:=List V->St->Hp->(St->Hp->Prop)->Prop
def PG (X:Cx)(target:Expr)(t:TG):Prop:=
 ∀ (pins:List (Addr×Obj)) (s:uS) (σ:St) (H:Hp) (v:V) (u:uT) (Q:St->Hp->Prop),Inv X pins σ H s->ZS v u->t v σ H Q->
  uP (uM X.prog X.w) X.A (qt target X.env u) (fun _ s'=>∃ σ' H',Inv X pins σ' H' s'/\Q σ' H') X.xe s
def PGs (X:Cx)(ts:List Expr)(t:TGs):Prop:=
 ∀ (pins:List (Addr×Obj)) (s:uS) (σ:St) (H:Hp) (vs:List V) (us:List uT) (Q:St->Hp->Prop),Inv X pins σ H s->ZX vs us->t vs σ H Q->
  uP (uM X.prog X.w) X.A (assignInOrder ((qU ts X.env).map (·.2)) us) (fun _ s'=>∃ σ' H',Inv X pins σ' H' s'/\Q σ' H') X.xe s
noncomputable abbrev TSet:=V->V->V->Hp->(Hp->Prop)->Prop
def PSet (X:Cx)(t:TSet):Prop:=
 ∀ (pins:List (Addr×Obj)) (s:uS) (σ:St) (H:Hp) (o i v:V) (ov iv u:uT) (Q:Hp->Prop),Inv X pins σ H s->ZS o ov->ZS i iv->ZS v u->t o i v H Q->
  uP (uM X.prog X.w) X.A (setItem ov iv u) (fun _ s'=>∃ H',Inv X pins σ H' s'/\Q H') X.xe s
noncomputable abbrev TIp:=V->V->Hp->VK->Prop
def PIp (X:Cx)(op:Operator)(t:TIp):Prop:=
 ∀ (pins:List (Addr×Obj)) (s:uS) (σ:St) (H:Hp) (x y:V) (v u:uT) (Q:VK),Inv X pins σ H s->ZS x v->ZS y u->t x y H Q->
  uP (uM X.prog X.w) X.A (inplaceOp op v u) (EP X pins σ Q) X.xe s
variable{es:List Expr}{k n:Nat}{tg:Expr}{te:TE}{pos':Pos}{body:List Stmt}{tb:TS}
def ZO (i:Nat):TG:=fun v σ H Q=>Q (σ.set i (some v)) H
theorem Zy (hN:X.N.Nodup)(hi:X.N[i]?=some x)(hx:Loc X.env.scope x)(hf:X.fn x=true\/X.env.scope.names.lookup x=some .local:=by first|exact .inl rfl|exact .inr rfl|assumption):PG X (.Name x pos) (ZO i):=by
 intro pins s σ H v u Q I r h;exact wpAny_assign_Name (SI I hN hi hx r (fun s' I'=>⟨_,H,I',h⟩) hf)
def gNil:TGs:=fun vs σ H Q=>vs=[]/\Q σ H
def zZ (t:TG)(u:TGs):TGs:=fun vs σ H Q=>∃ v r,vs=v::r/\t v σ H fun σ' H'=>u r σ' H' Q
theorem Vu:PGs X [] gNil:=by
 intro pins s σ H vs us Q I r h;obtain⟨e,h⟩:=h;subst e;cases r;exact assignInOrder_nil ⟨σ,H,I,h⟩
theorem X7 {t:TG}{u:TGs}(h1:PG X e t)(h2:PGs X es u)
  (hs:(qU (e::es) X.env).map (·.2)=qt e X.env::(qU es X.env).map (·.2):=by rfl):PGs X (e::es) (zZ t u):=by
 intro pins s σ H vs us Q I r h;obtain⟨v,vr,e1,h⟩:=h;subst e1;cases r with
 | cons r rr=>
  rw[hs];refine assignInOrder_cons (thn (h1 pins s σ H _ _ _ I r h) fun _ s1 ⟨σ1,H1,I1,q1⟩=>?_);exact h2 pins s1 σ1 H1 _ _ Q I1 rr q1
def gTup (K:yS)(n:Nat)(t:TGs):TG:=fun v σ H Q=>∃ a xs,v=.ref a/\SqT K H a xs/\xs.length=n/\t xs σ H Q
theorem KQ {t:TGs}(hc:X.calm=true)(h:PGs X es t)
  (hn:(qU es X.env).length=n:=by rfl) (oK:(qU es X.env).findIdx? (·.1)=none:=by rfl):PG X (.Tuple es k pos) (gTup X.K n t):=by
 intro pins s σ H v u Q I r hw;obtain⟨a,xs,e1,hq,hl,hw⟩:=hw;subst e1;cases r;obtain⟨pL,rv,ht,hz⟩:=I.tuple hq;refine assign_Tuple_tuple (I.ok.hd hc) ht (by simp[hn,<-hl,rv.length]) oK fun h' hx=>?_;have I1:Inv X pins σ H { s with heap:=h' }:=I.kept (t':=s.toks) fun b o e=>hx b o (yv (yM e)) e;exact h pins _ σ H xs _ Q I1 (by simpa using rv) hw
def Yj (te:TE)(g:TG):TS:=fun D σ H=>te σ H fun x H1=>g x σ H1 D.nx
theorem BV {g:TG}(he:PE X e te)(hg:PG X tg g)(hs:swapsWithSole [tg] e pos.line X.env=pure false:=by rfl)(hw:swappedStores [tg] e X.env=pure none:=by rfl)
  (h1:(qU [tg] X.env).map (·.2)=[qt tg X.env]:=by rfl):PS X (.Assign [tg] e pos) (Yj te g):=by
 intro pins s σ H D I h;refine wpAny_Assign_stores (thn (he pins s σ H _ I h) fun v s1 ⟨x,H1,I1,r1,q1⟩=>?_) hs hw;rw[h1];exact thn (hg pins s1 σ H1 x v _ I1 r1 q1) fun _ s2 q=>q
theorem PK (hN:X.N.Nodup)(hi:X.N[i]?=some x)(hx:Loc X.env.scope x)(he:PE X e te)(hs:rW e (some (.Name x pos')) pos.line X.env=pure false:=by rfl)(hf:X.fn x=true\/X.env.scope.names.lookup x=some .local:=by first|exact .inl rfl|exact .inr rfl|assumption) :
  PS X (.Assign [.Name x pos'] e pos) (Yj te (ZO i)):=by
 intro pins s σ H D I h;refine wpAny_Assign_Name (thn (he pins s σ H _ I h) fun v s1 ⟨y,H1,I1,r1,q1⟩=>?_) hs;exact SI I1 hN hi hx r1 (fun s2 I2=>⟨_,H1,I2,q1⟩) hf
def tAug (i:Nat)(te:TE)(ti:TIp):TS:=fun D σ H=>∃ x,σ[i]?=some (some x)/\te σ H fun y H1=>ti x y H1 fun z H2=>D.nx (σ.set i (some z)) H2
theorem Pk {op:Operator}{ti:TIp}(hN:X.N.Nodup)(hi:X.N[i]?=some x)(hx:Loc X.env.scope x)(he:PE X e te)(ho:PIp X op ti)(hf:X.fn x=true\/X.env.scope.names.lookup x=some .local:=by first|exact .inl rfl|exact .inr rfl|assumption) :
  PS X (.AugAssign (.Name x pos') op e pos) (tAug i te ti):=by
 intro pins s σ H D I h;obtain⟨v,e1,h⟩:=h;obtain⟨m,hn,hl⟩:=I.loc;have vis:Vis X.env.scope x:=by rcases hx with k|k;exact .inl k;exact .inr (.inl k)
 obtain⟨u,r,l⟩:=hl i x v hi e1 vis;refine wpAny_AugAssign_Name ?_;have go:uP (uM X.prog X.w) X.A (eval e X.env) (fun w s₂=>uP (uM X.prog X.w) X.A (inplaceOp op u w) (fun r s₃=>uP (uM X.prog X.w) X.A (storeName X.env x r) (fun _=>SP X pins D .next) X.xe s₃) X.xe s₂) X.xe s:=by
  refine thn (he pins s σ H _ I h) fun w s1 ⟨y,H1,I1,r1,q1⟩=>?_;refine thn (ho pins s1 σ H1 v y u w _ I1 r r1 q1) fun z s2 ⟨zv,H2,I2,r2,q2⟩=>?_;exact SI I2 hN hi hx r2 (fun s3 I3=>⟨_,H2,I3,q2⟩) hf
 rcases l with ⟨hk,hm⟩|⟨hk,c,hc,hcell⟩;exact wpAny_loadName_local I.ok.kind hk hn hm go;rcases hk with hk|hk;exact wpAny_loadName_cell I.ok.kind hk hc hcell go;rcases hx with k|k;have:X.env.scope.names.lookup x=some .free:=hk;rw[k]at this;cases this;have:X.env.scope.names.lookup x=some .free:=hk;rw[k]at this;cases this
noncomputable def ipI (f:Int->Int->Int):TIp:=fun x y H Q=>∃ i j,x=.int i/\y=.int j/\Q (.int (f i j)) H
theorem PB:PIp X .Add (ipI fun i j=>i+j):=by
 intro pins s σ H x y v u Q I r1 r2 h;obtain⟨i,j,e1,e2,q⟩:=h;subst e1;subst e2;obtain⟨t,rfl⟩:=r1;obtain⟨t',rfl⟩:=r2;exact iadd_int ⟨.int _,H,I.tok _,⟨_,rfl⟩,q⟩
def KN (c:TT)(tb:TS):TS:=fun D σ H=>∃ W:Nat->St->Hp->Prop,(∃ m,W m σ H)/\∀ m σ H,W m σ H->
 c σ H fun b H1=>if b=true then ∃ N:St->Hp->Prop,(∀ σ' H',N σ' H'->∃ m',m'<m/\W m' σ' H')/\tb { D with nx:=N,ct:=N,bk:=D.nx } σ H1 else D.nx σ H1
theorem Vy {tc:TT}(hp:PassesOwn (uM X.prog X.w) X.A X.env X.xe)(hc:PT X c tc)(hb:PSs X body tb):PS X (.While c body [] pos) (KN tc tb):=by
 intro pins s σ H D I h;obtain⟨W,⟨m0,w0⟩,turn⟩:=h;refine wpAny_While (codeAny_whileLoop (fun n s'=>∃ σ' H',Inv X pins σ' H' s'/\W n σ' H') ?_ m0 ⟨σ,H,I,w0⟩);rintro n s1 ⟨σ1,H1,I1,w1⟩;refine rR hp (thn (hc pins s1 σ1 H1 _ I1 (turn n σ1 H1 w1)) fun b s2 ⟨H2,I2,q2⟩=>?_);cases b with
 | true=>
  obtain⟨N,hN,q2⟩:=q2;rw[uK rfl];refine rR hp (thn (hb pins s2 σ1 H2 _ I2 q2) fun f s3 q3=>?_);cases f with
  | next=>
   obtain⟨σ3,H3,I3,n3⟩:=q3;obtain⟨m',hm,w3⟩:=hN σ3 H3 n3;exact⟨m',hm,σ3,H3,I3,w3⟩
  | cont=>
   obtain⟨σ3,H3,I3,n3⟩:=q3;obtain⟨m',hm,w3⟩:=hN σ3 H3 n3;exact⟨m',hm,σ3,H3,I3,w3⟩
  | brk=>exact q3
  | ret v=>exact q3
 | false=>
  rw[uL yC];exact rE ⟨σ1,H2,I2,q2⟩
structure It where
 go:Nat->Hp->Prop
 yld:Nat->Hp->V->Hp->Prop
 stop:Nat->Hp->Prop
def Y1 (X:Cx)(pins:List (Addr×Obj))(H:Hp)(b:Addr):Prop:=
 H b=none/\b≠X.env.locals/\b∉X.fs/\(b∈X.ex\/X.s₀.heap.objs.size<=b)/\(∀ x c,X.env.cells.lookup x=some c->c≠b)/\∀ p∈X.pn++pins,p.1≠b
variable{H':Hp}
theorem Inv.fpOk (I:Inv X pins σ H s)(hb:s.heap.objs.size<=b)(hn:H' b=none):Y1 X pins H' b:=by
 refine⟨hn,w9 (yz I.lt hb),I.nofs hb,.inr (xQ I.sz hb),fun x c e z=>?_,fun p hp z=>?_⟩;obtain⟨v,q⟩:=I.cell x c e;exact absurd (yz q.lt (by rw[z];exact hb)) (xN _);exact absurd (yz (yM (I.pin p hp).1) (by rw[z];exact hb)) (xN _)
structure Wv (P:uE)(w:uw)(K:yS)(tg:Expr)(J:It)(fp:List Addr)(it:Addr)(tn:Nat->Heap->Prop):Prop where
 mem:it∈fp
 obj:∀ i h,tn i h->∀ b∈fp,∃ o,h.get? b=some o/\∀ v,o.data≠.cell v
 keep:∀ i h h',tn i h->(∀ b∈fp,∀ o,h.get? b=some o->h'.get? b=some o)->tn i h'
 item:∀ (X:Cx),X.prog=P->X.w=w->X.K=K->X.calm=true->∀ (i:Nat) (pins:List (Addr×Obj)) (s:uS) (σ:St) (H:Hp) (E:uT->uS->Prop),Inv X pins σ H s->(∀ b∈fp,Y1 X pins H b)->tn i s.heap->J.go i H->
  uP (uM P w) X.A (rD (.ref it)) (fun r s1=>∃ u,r=some u/\
   uP (uM P w) X.A (rQ tg (.ref it) u) (fun _ s2=>∃ x H',Inv X pins σ H' s2/\ZS x u/\J.yld i H x H'/\tn (i+1) s2.heap/\∀ b∈fp,H' b=none) E s1) E s
 done:∀ (X:Cx),X.prog=P->X.w=w->X.K=K->X.calm=true->∀ (i:Nat) (pins:List (Addr×Obj)) (s:uS) (σ:St) (H:Hp) (E:uT->uS->Prop),Inv X pins σ H s->(∀ b∈fp,Y1 X pins H b)->tn i s.heap->J.stop i H->
  uP (uM P w) X.A (rD (.ref it)) (fun r s1=>r=none/\Inv X pins σ H s1) E s
 self:∀ (A:uq) (i:Nat) (s:uS) (Q:uT->uS->Prop) (E:uT->uS->Prop),tn i s.heap->Q (.ref it) s->uP (uM P w) A (pyIter (.ref it)) Q E s
noncomputable abbrev TI:=St->Hp->(It->Hp->Prop)->Prop
def PIE (X:Cx)(pins:List (Addr×Obj))(σ:St)(tg:Expr)(R:It->Hp->Prop)(ju:uT)(s2:uS):Prop:=
 ∃ (it:Addr) (fp:List Addr) (tn:Nat->Heap->Prop) (J:It) (H':Hp),ju=.ref it/\Inv X pins σ H' s2/\Wv X.prog X.w X.K tg J fp it tn/\tn 0 s2.heap/\(∀ b∈fp,Y1 X pins H' b)/\R J H'
def PI (X:Cx)(tg iter:Expr)(wi:TI):Prop:=
 ∀ (pins:List (Addr×Obj)) (s:uS) (σ:St) (H:Hp) (R:It->Hp->Prop),Inv X pins σ H s->wi σ H R->
  uP (uM X.prog X.w) X.A (eval iter X.env) (fun v s1=>uP (uM X.prog X.w) X.A (pyIter v) (PIE X pins σ tg R) X.xe s1) X.xe s
theorem TK {n:String}{vs:Array uT}{Q:Unit->uS->Prop}(ho:s.heap.get? it=some o)(hc:o.cls=.type n)(hd:o.data=.fields vs)
  (hn:["enumerate","zip","dict_itemiterator","dict_reverseitemiterator","odict_iterator","itertools.zip_longest","itertools.pairwise"].contains n=false) (hQ:Q () s):uP M A (rQ tg (.ref it) u) Q E s:=by
 unfold rQ;cases tg<;>first
  | exact uQ hQ
  | (cases u<;>first
      | exact uQ hQ
      | (refine uV (wpAny_load ho ?_);rw[hc,hd];show uP M A (if (["enumerate","zip","dict_itemiterator","dict_reverseitemiterator","odict_iterator","itertools.zip_longest","itertools.pairwise"].contains n&&vs[0]?==some (sW _))=true then _ else _) Q E s;rw[uL (by intro h;rw[hn,Bool.false_and]at h;cases h)];exact uQ hQ))
def Itl (K:yS)(a:Addr):It:=
 ⟨fun i H=>∃ xs x,SqL K H a xs/\xs[i]?=some x,fun i H x H'=>H'=H/\∀ xs,SqL K H a xs->xs[i]?=some x,fun i H=>∃ xs,SqL K H a xs/\xs.length<=i⟩
def Itt (K:yS)(a:Addr):It:=
 ⟨fun i H=>∃ xs x,SqT K H a xs/\xs[i]?=some x,fun i H x H'=>H'=H/\∀ xs,SqT K H a xs->xs[i]?=some x,fun i H=>∃ xs,SqT K H a xs/\xs.length<=i⟩
def Itr (lo:Int)(n:Nat):It:=⟨fun i _=>i<n,fun i H x H'=>H'=H/\x=.int (lo+i),fun i _=>n<=i⟩
variable{w:uw}
theorem QI (a it:Addr):Wv P w K tg (Itl K a) [it] it (fun i h=>h.IsListIter it a i) where
 mem:=by simp
 obj:=fun i h st b hb=>by
  have e:b=it:=by simpa using hb
  subst e;obtain⟨o,e,c,d⟩:=st;exact⟨o,e,fun v z=>by rw[d]at z;cases z⟩
 keep:=fun i h h' st k=>st.at fun o e=>k it (by simp) o e
 item:=by
  intro X hP hw hK hc i pins s σ H E I hf st hg;subst hP hw hK;obtain⟨xs,x,hq,hx⟩:=hg;obtain⟨pL,rv,p,hz⟩:=I.list hq;obtain⟨u,hu,ru⟩:=rv.get hx;obtain⟨f0,f1,f2,f3,f4,f5⟩:=hf it (by simp);refine qr st p.isList (x:=u) (by simpa using hu) fun h' nZ sb=>?_;have I1:Inv X pins σ H { s with heap:=h' }:=I.turned (t':=s.toks) (fun b o hb e=>(sb.2 b hb).trans e) f0 f1 f3 f4 f5;obtain⟨o,e,c,d⟩:=id nZ;exact⟨u,Z,TK (s:={ s with heap:=h' }) e c d (by decide) ⟨x,H,I1,ru,⟨Z,fun ys hy=>by rw[I.list_inj hy hq];exact hx⟩,nZ,fun b hb=>(hf b hb).1⟩⟩
 done:=by
  intro X hP hw hK hc i pins s σ H E I hf st hg;subst hP hw hK;obtain⟨xs,hq,hx⟩:=hg;obtain⟨pL,rv,p,hz⟩:=I.list hq;obtain⟨f0,f1,f2,f3,f4,f5⟩:=hf it (by simp);have hl:=rv.length;exact wpAny_pyNext_list_end (I.ok.hd hc) st p.isList (by simp;omega) fun h' eb=>⟨rfl,I.turned (t':=s.toks) (fun b o hb e=>eb b o hb e) f0 f1 f3 f4 f5⟩
 self:=fun _ _ _ _ _ st h=>qf st h
theorem HU (a it:Addr):Wv P w K tg (Itt K a) [it] it (fun i h=>h.IsTupleIter it a i) where
 mem:=by simp
 obj:=fun i h st b hb=>by
  have e:b=it:=by simpa using hb
  subst e;obtain⟨o,e,c,d⟩:=st;exact⟨o,e,fun v z=>by rw[d]at z;cases z⟩
 keep:=fun i h h' st k=>st.at fun o e=>k it (by simp) o e
 item:=by
  intro X hP hw hK hc i pins s σ H E I hf st hg;subst hP hw hK;obtain⟨xs,x,hq,hx⟩:=hg;obtain⟨pL,rv,p,hz⟩:=I.tuple hq;obtain⟨u,hu,ru⟩:=rv.get hx;obtain⟨f0,f1,f2,f3,f4,f5⟩:=hf it (by simp);refine wpAny_pyNext_tuple_item st (show s.heap.IsTuple a pL.toArray from p) (x:=u) (by simpa using hu) fun h' nZ sb=>?_;have I1:Inv X pins σ H { s with heap:=h' }:=I.turned (t':=s.toks) (fun b o hb e=>(sb.2 b hb).trans e) f0 f1 f3 f4 f5;obtain⟨o,e,c,d⟩:=id nZ;exact⟨u,Z,TK (s:={ s with heap:=h' }) e c d (by decide) ⟨x,H,I1,ru,⟨Z,fun ys hy=>by rw[I.tuple_inj hy hq];exact hx⟩,nZ,fun b hb=>(hf b hb).1⟩⟩
 done:=by
  intro X hP hw hK hc i pins s σ H E I hf st hg;subst hP hw hK;obtain⟨xs,hq,hx⟩:=hg;obtain⟨pL,rv,p,hz⟩:=I.tuple hq;obtain⟨f0,f1,f2,f3,f4,f5⟩:=hf it (by simp);have hl:=rv.length;exact wpAny_pyNext_tuple_end (I.ok.hd hc) st (show s.heap.IsTuple a pL.toArray from p) (by simp;omega) fun h' eb=>⟨rfl,I.turned (t':=s.toks) (fun b o hb e=>eb b o hb e) f0 f1 f3 f4 f5⟩
 self:=fun _ _ _ _ _ st h=>wpAny_pyIter_tupleiter st h
theorem Iu (it:Addr)(lo:Int)(n:Nat):Wv P w K tg (Itr lo n) [it] it (fun i h=>IsRangeIter h it (lo+(i:Nat)*1) ((n:Int)-(i:Nat)) 1) where
 mem:=by simp
 obj:=fun i h st b hb=>by
  have e:b=it:=by simpa using hb
  subst e;exact⟨_,st,fun v z=>by
   have z':Data.fields _=Data.cell v:=z
   cases z'⟩
 keep:=fun i h h' st k=>k it (by simp) _ st
 item:=by
  intro X hP hw hK hc i pins s σ H E I hf st hg;subst hP hw hK;obtain⟨f0,f1,f2,f3,f4,f5⟩:=hf it (by simp);have W:=Walks.range (prog:=X.prog) (w:=X.w) (I.ok.hd hc) it lo 1 n;refine W.item i s _ _ hg st fun v h' tk hv nZ kk=>?_;obtain⟨t,rfl⟩:=hv;have I1:Inv X pins σ H { s with heap:=h',toks:=tk }:=I.turned (fun b o hb e=>kk b o (by simpa using hb) e) f0 f1 f3 f4 f5;refine⟨_,Z,TK (s:={ s with heap:=h',toks:=tk }) (n:="range_iterator") nZ Z Z (by decide) ⟨.int (lo+i),H,I1,⟨t,?_⟩,⟨Z,Z⟩,nZ,fun b hb=>(hf b hb).1⟩⟩;rw[Int.mul_one]
 done:=by
  intro X hP hw hK hc i pins s σ H E I hf st hg;subst hP hw hK;obtain⟨f0,f1,f2,f3,f4,f5⟩:=hf it (by simp);exact wpAny_pyNext_range_end (I.ok.hd hc) st (by have:n<=i:=hg;omega) fun h' eb=>⟨rfl,I.turned (t':=s.toks) (fun b o hb e=>eb b o hb e) f0 f1 f3 f4 f5⟩
 self:=fun _ _ _ _ _ st h=>wpAny_pyIter_rangeiter st h
variable{fp:List Addr}
def Wx (K:yS)(tl:TE):TI:=fun σ H R=>tl σ H fun x H1=>∃ a,x=.ref a/\(∃ xs,SqL K H1 a xs)/\R (Itl K a) H1
def Rg (K:yS)(tl:TE):TI:=fun σ H R=>tl σ H fun x H1=>∃ a,x=.ref a/\(∃ xs,SqT K H1 a xs)/\R (Itt K a) H1
theorem XC {l:Expr}{tl:TE}(hl:PE X l tl):PI X tg l (Wx X.K tl):=by
 intro pins s σ H R I h;refine thn (hl pins s σ H _ I h) fun v s1 ⟨x,H1,I1,r1,q1⟩=>?_;obtain⟨a,e,⟨xs,hq⟩,q⟩:=q1;subst e;cases r1;obtain⟨pL,rv,p,hz⟩:=I1.list hq;refine sC p.isList ?_;refine⟨s1.heap.objs.size,[s1.heap.objs.size],_,_,H1,Z,I1.kept (t':=s1.toks) fun b o e=>yQ _ e,QI a _,⟨_,yN _ Z,Z,Z⟩,fun b hb=>?_,q⟩;have e:b=s1.heap.objs.size:=by simpa using hb
 subst e;exact I1.fpOk (yO _) (I1.hok.fresh (yO _))
theorem Vn {l:Expr}{tl:TE}(hl:PE X l tl):PI X tg l (Rg X.K tl):=by
 intro pins s σ H R I h;refine thn (hl pins s σ H _ I h) fun v s1 ⟨x,H1,I1,r1,q1⟩=>?_;obtain⟨a,e,⟨xs,hq⟩,q⟩:=q1;subst e;cases r1;obtain⟨pL,rv,p,hz⟩:=I1.tuple hq;refine rV (show s1.heap.IsTuple a pL.toArray from p) ?_;refine⟨s1.heap.objs.size,[s1.heap.objs.size],_,_,H1,Z,I1.kept (t':=s1.toks) fun b o e=>yQ _ e,HU a _,⟨_,yN _ Z,Z,Z⟩,fun b hb=>?_,q⟩;have e:b=s1.heap.objs.size:=by simpa using hb
 subst e;exact I1.fpOk (yO _) (I1.hok.fresh (yO _))
theorem FU {R:It->Hp->Prop}{lo hi:Int}{t u v:Tok}{tk:Nat}(I:Inv X pins σ H s)(h1:-(2^62)<=lo)(h2:lo<2^62)(h3:-(2^62)<=hi)(h4:hi<2^62)
  (q:R (Itr lo (hi-lo).toNat) H):uP (uM X.prog X.w) X.A (pyIter (.ref s.heap.objs.size)) (PIE X pins σ tg R) E { s with heap:=s.heap.push { cls:=.type "range",data:=.fields #[.int lo t,.int hi u,.int 1 v] },toks:=tk }:=by
 refine wpAny_pyIter_range (IsRange.new ..) (small_one h1 h2 h3 h4) ?_;have I1:Inv X pins σ H { s with heap:=s.heap.push { cls:=.type "range",data:=.fields #[.int lo t,.int hi u,.int 1 v] },toks:=tk }:=I.kept fun b o e=>yQ _ e;refine⟨(s.heap.push { cls:=.type "range",data:=.fields #[.int lo t,.int hi u,.int 1 v] }).objs.size,[(s.heap.push { cls:=.type "range",data:=.fields #[.int lo t,.int hi u,.int 1 v] }).objs.size],_,_,H,Z,
  I1.kept (t':=tk) fun b o e=>yQ _ e,Iu _ lo (hi-lo).toNat,?_,fun b hb=>?_,q⟩
 have e1:lo+((0:Nat):Int)*1=lo:=by simp
 have e2:(((hi-lo).toNat:Nat):Int)-((0:Nat):Int)=Builtin.Range.rangeSize lo hi 1:=by rw[rangeSize_one];split<;>omega
 show IsRangeIter _ _ (lo+((0:Nat):Int)*1) ((((hi-lo).toNat:Nat):Int)-((0:Nat):Int)) 1;rw[e1,e2];exact yN _ rfl;have e:b=(s.heap.push { cls:=.type "range",data:=.fields #[.int lo t,.int hi u,.int 1 v] }).objs.size:=by simpa using hb
 subst e;exact I1.fpOk (yO _) (I1.hok.fresh (yO _))
def O6 (ta:TA):TI:=fun σ H R=>ta σ H fun vs H1=>∃ j:Int,vs=[.int j]/\-(2^62)<=j/\j<2^62/\R (Itr 0 j.toNat) H1
theorem UQ {a:Expr}{ta:TA}{p:Pos}(hg:Gl X "range")(hm:X.mg "range"=none)(ha:PA X [a] ta)(hs:uB [a] X.env=[(false,eval a X.env)]:=by rfl):PI X tg (.Call (.Name "range" p) [a] [] pos) (O6 ta):=by
 intro pins s σ H R I h;refine Call_ (Wc I hg hm boot_range (sO (thn (ha pos pins s σ H _ I h) fun us s1 ⟨vs,H1,I1,r1,q1⟩=>?_) hs rfl));obtain⟨j,e,q1,q2,q⟩:=q1;subst e;cases r1 with
 | cons r rr=>
  cases rr;obtain⟨t,rfl⟩:=r;exact call_range_1 (FU I1 (by omega) (by omega) q1 q2 (by simpa using q))
def tFor (wi:TI)(g:TG)(tb:TS):TS:=fun D σ H=>wi σ H fun J H1=>∃ W:Nat->Nat->St->Hp->Prop,(∃ m,W 0 m σ H1)/\∀ i m σ H,W i m σ H->
 (J.stop i H/\D.nx σ H)\/(J.go i H/\∃ N:St->Hp->Prop,(∀ σ' H',N σ' H'->∃ m',m'<m/\W (i+1) m' σ' H')/\∀ x H',J.yld i H x H'->g x σ H' fun σ2 H2=>tb { D with nx:=N,ct:=N,bk:=D.nx } σ2 H2)
noncomputable def R0 (fp:List Addr)(h:Heap):List (Addr×Obj):=fp.filterMap fun b=>(h.get? b).map fun o=>(b,o)
theorem WM (hb:b∈fp)(e:h.get? b=some o):(b,o)∈R0 fp h:=wc.mpr ⟨b,hb,by rw[e];rfl⟩
theorem HA {p:Addr×Obj}(hp:p∈R0 fp h):p.1∈fp/\h.get? p.1=some p.2:=by
 obtain⟨b,hb,e⟩:=wc.mp hp;cases q:h.get? b with
 | none=>rw[q]at e;cases e
 | some o=>
  rw[q]at e;have e':(b,o)=p:=uz.inj e;subst e';exact⟨hb,q⟩
theorem Inv.pinned (I:Inv X pins σ H s)(hf:∀ b∈fp,Y1 X pins H b)(ho:∀ b∈fp,∃ o,s.heap.get? b=some o/\∀ v,o.data≠.cell v):Inv X (pins++R0 fp s.heap) σ H s:=
 I.pins_of fun p hp=>(yo.mp hp).elim (fun z=>I.pin p (yr _ z)) fun z=>by
  obtain⟨hb,e⟩:=HA z;obtain⟨f0,f1,f2,_⟩:=hf p.1 hb;obtain⟨o,e',d⟩:=ho p.1 hb;rw[e]at e';cases e';exact⟨e,f0,f1,f2,d⟩
theorem Inv.unpinned {pl:List (Addr×Obj)}(I:Inv X (pins++pl) σ H s):Inv X pins σ H s:=I.pins_of fun p hp=>I.pin p (yr _ (xP _ hp))
theorem Yd {iter:Expr}{wi:TI}{g:TG}(hp:PassesOwn (uM X.prog X.w) X.A X.env X.xe)(hc:X.calm=true)(hi:PI X tg iter wi)(hg:PG X tg g)(hb:PSs X body tb)
  (hs:∀ x,sx iter X.env x=pure x:=by intro _;rfl):PS X (.For tg iter body [] pos) (tFor wi g tb):=by
 intro pins s σ H D I h;refine wpAny_For (thn (hi pins s σ H _ I h) fun v s1 h1=>thn h1 fun ju s2 h2=>?_) hs;obtain⟨it,fp,tn,J,H2,e,I2,T,mK,f2,W,⟨m0,w0⟩,turn⟩:=h2;subst e;have ow:∀ {H':Hp},(∀ b∈fp,H' b=none)->∀ b∈fp,Y1 X pins H' b:=fun hn b hb=>⟨hn b hb,(f2 b hb).2⟩;refine codeAny_forLoop_any (fun n s'=>∃ i σ' H',Inv X pins σ' H' s'/\tn i s'.heap/\(∀ b∈fp,H' b=none)/\W i n σ' H') ?_ m0 ⟨0,σ,H2,I2,mK,fun b hb=>(f2 b hb).1,w0⟩;rintro n s3 ⟨i,σ3,H3,I3,st3,fr3,w3⟩;rcases turn i n σ3 H3 w3 with ⟨stop,qn⟩|⟨go,N,hN,step⟩;refine rR hp (thn (T.done X rfl rfl rfl hc i pins s3 σ3 H3 X.xe I3 (ow fr3) st3 stop) fun r s4 ⟨hr,I4⟩=>?_);subst hr;exact rE ⟨σ3,H3,I4,qn⟩
 ·refine rR hp (thn (T.item X rfl rfl rfl hc i pins s3 σ3 H3 X.xe I3 (ow fr3) st3 go) fun r s4 ⟨u,hr,h4⟩=>?_);subst hr;refine rR hp (thn h4 fun _ s5 ⟨x,H5,I5,r5,y5,st5,fr5⟩=>?_);have aS:=I5.pinned (ow fr5) (T.obj _ _ st5);refine rR hp (thn (hg _ s5 σ3 H5 x u _ aS r5 (step x H5 y5)) fun _ s6 ⟨σ6,H6,I6,q6⟩=>?_);refine rR hp (thn (hb _ s6 σ6 H6 _ I6 q6) fun f s7 q7=>?_);have again:∀ {σ7:St} {H7:Hp},Inv X (pins++R0 fp s5.heap) σ7 H7 s7->N σ7 H7->∃ m,m<n/\∃ i σ' H',Inv X pins σ' H' s7/\tn i s7.heap/\(∀ b∈fp,H' b=none)/\W i m σ' H':=fun {σ7 H7} I7 n7=>by
   obtain⟨m',hm,w7⟩:=hN σ7 H7 n7;refine⟨m',hm,i+1,σ7,H7,I7.unpinned,T.keep _ _ _ st5 fun b hb o e=>(I7.pin (b,o) (yr _ (yr _ (WM hb e)))).1,fun b hb=>?_,w7⟩;obtain⟨o,e,d⟩:=T.obj _ _ st5 b hb;exact (I7.pin (b,o) (yr _ (yr _ (WM hb e)))).2.1
  cases f with
  | next=>obtain⟨σ7,H7,I7,n7⟩:=q7;exact again I7 n7
  | cont=>obtain⟨σ7,H7,I7,n7⟩:=q7;exact again I7 n7
  | brk=>obtain⟨σ7,H7,I7,q7⟩:=q7;exact⟨σ7,H7,I7.unpinned,q7⟩
  | ret v=>obtain⟨x7,σ7,H7,I7,r7,q7⟩:=q7;exact⟨x7,σ7,H7,I7.unpinned,r7,q7⟩
variable{xs:List V}{D:Zc}
theorem Qy {g:TG}(Pv:Nat->St->Hp->Prop)(h0:Pv 0 σ H)(hl:∀ i σ H,i<=xs.length->Pv i σ H->SqL K H a xs)
  (hs:∀ i x σ H,xs[i]?=some x->Pv i σ H->g x σ H fun σ2 H2=>tb { D with nx:=Pv (i+1),ct:=Pv (i+1),bk:=D.nx } σ2 H2) (hd:∀ σ H,Pv xs.length σ H->D.nx σ H) :
  ∃ W:Nat->Nat->St->Hp->Prop,(∃ m,W 0 m σ H)/\∀ i m σ H,W i m σ H->
   ((Itl K a).stop i H/\D.nx σ H)\/((Itl K a).go i H/\∃ N:St->Hp->Prop,(∀ σ' H',N σ' H'->∃ m',m'<m/\W (i+1) m' σ' H')/\∀ x H',(Itl K a).yld i H x H'->g x σ H' fun σ2 H2=>tb { D with nx:=N,ct:=N,bk:=D.nx } σ2 H2):=by
 refine⟨fun i m σ H=>m=xs.length-i/\i<=xs.length/\Pv i σ H,⟨xs.length,by simp,xY _,h0⟩,?_⟩;rintro i m σ H ⟨rfl,hi,p⟩;have q:=hl i σ H hi p;by_cases pJ:i<xs.length;refine .inr ⟨⟨xs,xs[i],q,by simp[pJ]⟩,Pv (i+1),fun σ' H' p'=>⟨xs.length-(i+1),by omega,rfl,pJ,p'⟩,fun x H' y=>?_⟩;obtain⟨e,y⟩:=y;subst e;exact hs i x σ _ (y xs q) p;have e:i=xs.length:=by omega
 subst e;exact .inl ⟨⟨xs,q,yO _⟩,hd σ H p⟩
theorem Mn {g:TG}(Pv:Nat->St->Hp->Prop)(h0:Pv 0 σ H)(hl:∀ i σ H,i<=xs.length->Pv i σ H->SqT K H a xs)
  (hs:∀ i x σ H,xs[i]?=some x->Pv i σ H->g x σ H fun σ2 H2=>tb { D with nx:=Pv (i+1),ct:=Pv (i+1),bk:=D.nx } σ2 H2) (hd:∀ σ H,Pv xs.length σ H->D.nx σ H) :
  ∃ W:Nat->Nat->St->Hp->Prop,(∃ m,W 0 m σ H)/\∀ i m σ H,W i m σ H->
   ((Itt K a).stop i H/\D.nx σ H)\/((Itt K a).go i H/\∃ N:St->Hp->Prop,(∀ σ' H',N σ' H'->∃ m',m'<m/\W (i+1) m' σ' H')/\∀ x H',(Itt K a).yld i H x H'->g x σ H' fun σ2 H2=>tb { D with nx:=N,ct:=N,bk:=D.nx } σ2 H2):=by
 refine⟨fun i m σ H=>m=xs.length-i/\i<=xs.length/\Pv i σ H,⟨xs.length,by simp,xY _,h0⟩,?_⟩;rintro i m σ H ⟨rfl,hi,p⟩;have q:=hl i σ H hi p;by_cases pJ:i<xs.length;refine .inr ⟨⟨xs,xs[i],q,by simp[pJ]⟩,Pv (i+1),fun σ' H' p'=>⟨xs.length-(i+1),by omega,rfl,pJ,p'⟩,fun x H' y=>?_⟩;obtain⟨e,y⟩:=y;subst e;exact hs i x σ _ (y xs q) p;have e:i=xs.length:=by omega
 subst e;exact .inl ⟨⟨xs,q,yO _⟩,hd σ H p⟩
theorem NC {lo:Int}{g:TG}(Pv:Nat->St->Hp->Prop)(h0:Pv 0 σ H)
  (hs:∀ i σ H,i<n->Pv i σ H->g (.int (lo+i)) σ H fun σ2 H2=>tb { D with nx:=Pv (i+1),ct:=Pv (i+1),bk:=D.nx } σ2 H2) (hd:∀ σ H,Pv n σ H->D.nx σ H) :
  ∃ W:Nat->Nat->St->Hp->Prop,(∃ m,W 0 m σ H)/\∀ i m σ H,W i m σ H->
   ((Itr lo n).stop i H/\D.nx σ H)\/((Itr lo n).go i H/\∃ N:St->Hp->Prop,(∀ σ' H',N σ' H'->∃ m',m'<m/\W (i+1) m' σ' H')/\∀ x H',(Itr lo n).yld i H x H'->g x σ H' fun σ2 H2=>tb { D with nx:=N,ct:=N,bk:=D.nx } σ2 H2):=by
 refine⟨fun i m σ H=>m=n-i/\i<=n/\Pv i σ H,⟨n,by simp,xY _,h0⟩,?_⟩;rintro i m σ H ⟨rfl,hi,p⟩;by_cases pJ:i<n;refine .inr ⟨pJ,Pv (i+1),fun σ' H' p'=>⟨n-(i+1),by omega,rfl,pJ,p'⟩,fun x H' y=>?_⟩;obtain⟨e,y⟩:=y;subst e y;exact hs i σ _ pJ p;have e:i=n:=by omega
 subst e;exact .inl ⟨yO _,hd σ H p⟩
theorem VA {c:TT}(Pv:St->Hp->Prop)(μ:St->Hp->Nat)(h0:Pv σ H)
  (hs:∀ σ H,Pv σ H->c σ H fun b H1=>if b=true then tb { D with nx:=fun σ' H'=>Pv σ' H'/\μ σ' H'<μ σ H,ct:=fun σ' H'=>Pv σ' H'/\μ σ' H'<μ σ H,bk:=D.nx } σ H1 else D.nx σ H1)
  (mono:∀ σ H Q Q',(∀ b H1,Q b H1->Q' b H1)->c σ H Q->c σ H Q'):KN c tb D σ H:=by
 refine⟨fun m σ H=>m=μ σ H/\Pv σ H,⟨_,Z,h0⟩,?_⟩;rintro m σ H ⟨rfl,p⟩;refine mono σ H _ _ (fun b H1 q=>?_) (hs σ H p);cases b with
 | true=>exact⟨_,fun σ' H' ⟨p',l⟩=>⟨_,l,Z,p'⟩,q⟩
 | false=>exact q
noncomputable abbrev R2:=V->V->Hp->VK->Prop
def OpR (X:Cx)(f:uT->uT->Sem uT)(r:R2):Prop:=
 ∀ (pins:List (Addr×Obj)) (s:uS) (σ:St) (H:Hp) (x y:V) (v u:uT) (Q:VK),Inv X pins σ H s->ZS x v->ZS y u->r x y H Q->
  uP (uM X.prog X.w) X.A (f v u) (EP X pins σ Q) X.xe s
def UnR (X:Cx)(f:uT->Sem uT)(r:V->Hp->VK->Prop):Prop:=
 ∀ (pins:List (Addr×Obj)) (s:uS) (σ:St) (H:Hp) (x:V) (v:uT) (Q:VK),Inv X pins σ H s->ZS x v->r x H Q->
  uP (uM X.prog X.w) X.A (f v) (EP X pins σ Q) X.xe s
def Y7 (X:Cx)(f:uT)(r:List V->Hp->VK->Prop):Prop:=
 ∀ (pins:List (Addr×Obj)) (s:uS) (σ:St) (H:Hp) (xs:List V) (us:List uT) (Q:VK),Inv X pins σ H s->ZX xs us->r xs H Q->
  uP (uM X.prog X.w) X.A (call f us) (EP X pins σ Q) X.xe s
def tOp (r:R2)(ta tb:TE):TE:=fun σ H Q=>ta σ H fun x H1=>tb σ H1 fun y H2=>r x y H2 Q
def tUn (r:V->Hp->VK->Prop)(ta:TE):TE:=fun σ H Q=>ta σ H fun x H1=>r x H1 Q
def rI (C:Int->Int->Prop)(g:Int->Int->V):R2:=fun x y H Q=>∃ i j,x=.int i/\y=.int j/\C i j/\Q (g i j) H
def rI0 (g:Int->Int->V):R2:=fun x y H Q=>∃ i j,x=.int i/\y=.int j/\Q (g i j) H
def rU (g:Int->V):V->Hp->VK->Prop:=fun x H Q=>∃ i,x=.int i/\Q (g i) H
variable{r:R2}{f:uT->uT->Sem uT}
section
variable {a b:Expr}{tb tc:TE}
theorem Oz (ha:PE X a ta)(hb:PE X b tb){R:V->V->Hp->Prop}(I:Inv X pins σ H s)
  (h:ta σ H fun x H1=>tb σ H1 fun y H2=>R x y H2) {Q:uT->uS->Prop} {f:uT->uT->Sem uT}
  (hf:∀ v u s2 x y H2,Inv X pins σ H2 s2->ZS x v->ZS y u->R x y H2->uP (uM X.prog X.w) X.A (f v u) Q X.xe s2) :
  uP (uM X.prog X.w) X.A (eval a X.env) (fun v s₁=>uP (uM X.prog X.w) X.A (eval b X.env) (fun u s₂=>uP (uM X.prog X.w) X.A (f v u) Q X.xe s₂) X.xe s₁) X.xe s:=by
 refine thn (ha pins s σ H _ I h) fun v s1 ⟨x,H1,I1,r1,q1⟩=>?_;refine thn (hb pins s1 σ H1 _ I1 q1) fun u s2 ⟨y,H2,I2,r2,q2⟩=>?_;exact hf v u s2 x y H2 I2 r1 r2 q2
theorem Zr {op:Operator}(ho:OpR X (rh op) r)(ha:PE X a ta)(hb:PE X b tb):PE X (.BinOp a op b pos) (tOp r ta tb):=by
 intro pins s σ H Q I h;exact wpAny_BinOp (Oz ha hb I h fun v u s2 x y H2 I2 rx ry q=>ho pins s2 σ H2 x y v u Q I2 rx ry q)
theorem Va {op:UnaryOp}{r:V->Hp->VK->Prop}(ho:UnR X (unaryOp op) r)(ha:PE X a ta):PE X (.UnaryOp op a pos) (tUn r ta):=by
 intro pins s σ H Q I h;exact UnaryOp_ (thn (ha pins s σ H _ I h) fun v s1 ⟨x,H1,I1,r1,q1⟩=>ho pins s1 σ H1 x v Q I1 r1 q1)
theorem opI {C:Int->Int->Prop}{g:Int->Int->Int}
  (rule:∀ (i j:Int) (t u:Tok) (s:uS) (Q:uT->uS->Prop) (E:uT->uS->Prop),C i j->Q (.int (g i j) s.toks) { s with toks:=s.toks+1 }->uP (uM X.prog X.w) X.A (f (.int i t) (.int j u)) Q E s) :
  OpR X f (rI C fun i j=>.int (g i j)):=by
 intro pins s σ H x y v u Q I rx ry h;obtain⟨i,j,rfl,rfl,hc,q⟩:=h;obtain⟨t,rfl⟩:=rx;obtain⟨t',rfl⟩:=ry;exact rule i j t t' s _ _ hc ⟨.int (g i j),H,I.tok _,⟨_,rfl⟩,q⟩
theorem opI0 {g:Int->Int->Int}
  (rule:∀ (i j:Int) (t u:Tok) (s:uS) (Q:uT->uS->Prop) (E:uT->uS->Prop),Q (.int (g i j) s.toks) { s with toks:=s.toks+1 }->uP (uM X.prog X.w) X.A (f (.int i t) (.int j u)) Q E s) :
  OpR X f (rI0 fun i j=>.int (g i j)):=by
 intro pins s σ H x y v u Q I rx ry h;obtain⟨i,j,rfl,rfl,q⟩:=h;obtain⟨t,rfl⟩:=rx;obtain⟨t',rfl⟩:=ry;exact rule i j t t' s _ _ ⟨.int (g i j),H,I.tok _,⟨_,rfl⟩,q⟩
theorem Q5 {g:Int->Int->Bool}
  (rule:∀ (i j:Int) (t u:Tok) (s:uS) (Q:uT->uS->Prop) (E:uT->uS->Prop),Q (.bool (g i j)) s->uP (uM X.prog X.w) X.A (f (.int i t) (.int j u)) Q E s) :
  OpR X f (rI0 fun i j=>.bl (g i j)):=by
 intro pins s σ H x y v u Q I rx ry h;obtain⟨i,j,rfl,rfl,q⟩:=h;obtain⟨t,rfl⟩:=rx;obtain⟨t',rfl⟩:=ry;exact rule i j t t' s _ _ ⟨.bl (g i j),H,I,rfl,q⟩
def CDiv (i j:Int):Prop:=0<j/\j<1073741824
def Q8 (i j:Int):Prop:=(-(2^64)<i/\i<2^64)\/(-(2^64)<j/\j<2^64)
theorem Q8.ok {i j:Int}(h:Q8 i j):IntMulOk i j:=by
 rcases h with ⟨h1,h2⟩|⟨h1,h2⟩;exact .of_left (intBits_le_64 h1 h2);exact .of_right (intBits_le_64 h1 h2)
theorem Bx:OpR X (rh .Add) (rI0 fun i j=>.int (i+j)):=opI0 fun _ _ _ _ _ _ _ q=>add_int q
theorem T3:OpR X (rh .Sub) (rI0 fun i j=>.int (i-j)):=opI0 fun _ _ _ _ _ _ _ q=>sub_int q
theorem BG:OpR X (rh .Mult) (rI Q8 fun i j=>.int (i*j)):=opI fun _ _ _ _ _ _ _ hc q=>mul_int q hc.ok
theorem Eh:OpR X (rh .FloorDiv) (rI CDiv fun i j=>.int (i/j)):=opI fun i j _ _ _ _ _ hc q=>by
 have h1:(0:Int)<j:=hc.1;have h2:j<1073741824:=hc.2;exact floordiv_int (by omega) (by rw[vm i (by omega)];exact q) (.inl (PyProof.noPylong_small (by omega)))
theorem Xe:OpR X (rh .Mod) (rI (fun _ j=>0<j) fun i j=>.int (i%j)):=opI fun i j _ _ _ _ _ hc q=>by
 have h1:(0:Int)<j:=hc;exact mod_int' (by omega) (by rw[Int.fmod_eq_emod_of_nonneg i (by omega)];exact q)
theorem unI {f:uT->Sem uT}{g:Int->Int}
  (rule:∀ (i:Int) (t:Tok) (s:uS) (Q:uT->uS->Prop) (E:uT->uS->Prop),Q (.int (g i) s.toks) { s with toks:=s.toks+1 }->uP (uM X.prog X.w) X.A (f (.int i t)) Q E s) :
  UnR X f (rU fun i=>.int (g i)):=by
 intro pins s σ H x v Q I rx h;obtain⟨i,rfl,q⟩:=h;obtain⟨t,rfl⟩:=rx;exact rule i t s _ _ ⟨.int (g i),H,I.tok _,⟨_,rfl⟩,q⟩
theorem Vj:UnR X (unaryOp .USub) (rU fun i=>.int (-i)):=unI fun _ _ _ _ _ q=>neg_int q
end
noncomputable def scal:V->V->Bool
 | .non,.non=>true | .non,.int _=>true | .int _,.non=>true | .non,.bl _=>true | .bl _,.non=>true | .non,.str _=>true | .str _,.non=>true
 | .int _,.int _=>true | .bl _,.bl _=>true | .str _,.str _=>true | .byt _,.byt _=>true
 | .int _,.str _=>true | .str _,.int _=>true | .bl _,.str _=>true | .str _,.bl _=>true
 | _,_=>false
def rEq:R2:=fun x y H Q=>scal x y=true/\Q (.bl (decide (x=y))) H
def rNe:R2:=fun x y H Q=>scal x y=true/\Q (.bl (!decide (x=y))) H
theorem Mm {i j:Int}:decide (V.int i=V.int j)=(i==j):=by
 rw[wb];simp
theorem KM {i j:Bool}:decide (V.bl i=V.bl j)=(i==j):=by
 rw[wb];simp
theorem LW {i j:Str}:decide (V.str i=V.str j)=(i==j):=by
 rw[wb];simp
theorem Mo {i j:Array UInt8}:decide (V.byt i=V.byt j)=(i.toList==j.toList):=by
 rw[wb];cases i;cases j;simp
variable{us:List uT}
section
variable {a b:Expr}{tb tc:TE}
theorem Zo {Q:VK}{k k':Bool}(I:Inv X pins σ H s)(q:Q (.bl k) H)(e:k=k'):EP X pins σ Q (.bool k') s:=by
 subst e;exact⟨.bl k,H,I,Z,q⟩
theorem Zz:OpR X (tV .Eq) rEq:=by
 intro pins s σ H x y v u Q I rx ry h;obtain⟨hs,q⟩:=h;cases x with
 | non=>
  cases rx;cases y with
  | non=>cases ry;exact PySem.EqNone.eq_none_none (Zo I q (by simp))
  | bl j=>cases ry;exact PySem.EqNone.eq_none_bool (Zo I q (by simp))
  | int j=>obtain⟨t',rfl⟩:=ry;exact PySem.EqNone.eq_none_int (Zo I q (by simp))
  | str j=>obtain⟨t',rfl⟩:=ry;exact PySem.EqNone.eq_none_str (Zo I q (by simp))
  | _=>exact absurd (show false=true from hs) yC
 | bl i=>
  cases rx;cases y with
  | non=>cases ry;exact PySem.EqNone.eq_bool_none (Zo I q (by simp))
  | bl j=>cases ry;exact eq_bool (Zo I q KM)
  | str j=>obtain⟨t',rfl⟩:=ry;exact PySem.EqMixed.eq_bool_str (Zo I q (by simp))
  | _=>exact absurd (show false=true from hs) yC
 | int i=>
  obtain⟨t,rfl⟩:=rx;cases y with
  | non=>cases ry;exact PySem.EqNone.eq_int_none (Zo I q (by simp))
  | int j=>obtain⟨t',rfl⟩:=ry;exact eq_int (Zo I q Mm)
  | str j=>obtain⟨t',rfl⟩:=ry;exact PySem.EqMixed.eq_int_str (Zo I q (by simp))
  | _=>exact absurd (show false=true from hs) yC
 | str i=>
  obtain⟨t,rfl⟩:=rx;cases y with
  | non=>cases ry;exact PySem.EqNone.eq_str_none (Zo I q (by simp))
  | bl j=>cases ry;exact PySem.EqMixed.eq_str_bool (Zo I q (by simp))
  | int j=>obtain⟨t',rfl⟩:=ry;exact PySem.EqMixed.eq_str_int (Zo I q (by simp))
  | str j=>obtain⟨t',rfl⟩:=ry;exact eq_str (Zo I q LW)
  | _=>exact absurd (show false=true from hs) yC
 | byt i=>
  obtain⟨t,rfl⟩:=rx;cases y with
  | byt j=>obtain⟨t',rfl⟩:=ry;exact PySem.W.eq_bytes (Zo I q Mo)
  | _=>exact absurd (show false=true from hs) yC
 | _=>cases y<;>exact absurd (show false=true from hs) yC
theorem Xb:OpR X (tV .NotEq) rNe:=by
 intro pins s σ H x y v u Q I rx ry h;obtain⟨hs,q⟩:=h;cases x with
 | non=>
  cases rx;cases y with
  | non=>cases ry;exact PySem.EqNone.ne_none_none (Zo I q (by simp))
  | bl j=>cases ry;exact PySem.EqNone.ne_none_bool (Zo I q (by simp))
  | int j=>obtain⟨t',rfl⟩:=ry;exact PySem.EqNone.ne_none_int (Zo I q (by simp))
  | str j=>obtain⟨t',rfl⟩:=ry;exact PySem.EqNone.ne_none_str (Zo I q (by simp))
  | _=>exact absurd (show false=true from hs) yC
 | bl i=>
  cases rx;cases y with
  | non=>cases ry;exact PySem.EqNone.ne_bool_none (Zo I q (by simp))
  | bl j=>cases ry;exact ne_bool (Zo I q (tX not KM))
  | str j=>obtain⟨t',rfl⟩:=ry;exact PySem.EqMixed.ne_bool_str (Zo I q (by simp))
  | _=>exact absurd (show false=true from hs) yC
 | int i=>
  obtain⟨t,rfl⟩:=rx;cases y with
  | non=>cases ry;exact PySem.EqNone.ne_int_none (Zo I q (by simp))
  | int j=>obtain⟨t',rfl⟩:=ry;exact ne_int (Zo I q (tX not Mm))
  | str j=>obtain⟨t',rfl⟩:=ry;exact PySem.EqMixed.ne_int_str (Zo I q (by simp))
  | _=>exact absurd (show false=true from hs) yC
 | str i=>
  obtain⟨t,rfl⟩:=rx;cases y with
  | non=>cases ry;exact PySem.EqNone.ne_str_none (Zo I q (by simp))
  | bl j=>cases ry;exact PySem.EqMixed.ne_str_bool (Zo I q (by simp))
  | int j=>obtain⟨t',rfl⟩:=ry;exact PySem.EqMixed.ne_str_int (Zo I q (by simp))
  | str j=>obtain⟨t',rfl⟩:=ry;exact ne_str (Zo I q (tX not LW))
  | _=>exact absurd (show false=true from hs) yC
 | byt i=>
  obtain⟨t,rfl⟩:=rx;cases y with
  | byt j=>obtain⟨t',rfl⟩:=ry;exact PySem.W.ne_bytes (Zo I q (tX not Mo))
  | _=>exact absurd (show false=true from hs) yC
 | _=>cases y<;>exact absurd (show false=true from hs) yC
theorem V0:OpR X (tV .Lt) (rI0 fun i j=>.bl (decide (i<j))):=Q5 fun _ _ _ _ _ _ _ q=>lt_int q
theorem XX:OpR X (tV .LtE) (rI0 fun i j=>.bl (decide (i<=j))):=Q5 fun _ _ _ _ _ _ _ q=>le_int q
theorem V5:OpR X (tV .Gt) (rI0 fun i j=>.bl (decide (j<i))):=Q5 fun _ _ _ _ _ _ _ q=>gt_int q
theorem Ae:OpR X (tV .GtE) (rI0 fun i j=>.bl (decide (j<=i))):=Q5 fun _ _ _ _ _ _ _ q=>ge_int q
theorem QH:OpR X (tV .In) (fun x y H Q=>∃ i j,x=.str i/\y=.str j/\Q (.bl (!(ui j i 0 j.length 1).isEmpty)) H):=by
 intro pins s σ H x y v u Q I rx ry h;obtain⟨i,j,rfl,rfl,q⟩:=h;obtain⟨t,rfl⟩:=rx;obtain⟨t',rfl⟩:=ry;exact in_str (Zo I q rfl)
theorem YA (b:Expr)(h:op≠.In:=by decide)(h2:op≠.NotIn:=by decide):qN op b=false:=by
 have e1:(op==CmpOp.In)=false:=by cases op<;>first|rfl|exact absurd rfl h
 have e2:(op==CmpOp.NotIn)=false:=by cases op<;>first|rfl|exact absurd rfl h2
 cases b<;>simp[qN,e1,e2]
theorem YW (ho:OpR X (tV op) r)(ha:PE X a ta)(hb:PE X b tb)(hm:qN op b=false):PE X (.Compare a [op] [b] pos) (tOp r ta tb):=by
 intro pins s σ H Q I h;exact wpAny_Compare1 (Oz ha hb I h fun v u s2 x y H2 I2 rx ry q=>ho pins s2 σ H2 x y v u Q I2 rx ry q) hm
def U8 (t:TE):TT:=fun σ H Q=>t σ H fun x H'=>∃ k,x=.bl k/\Q k H'
theorem Vs (ho:OpR X (tV op) r)(ha:PE X a ta)(hb:PE X b tb)(hm:qN op b=false):PT X (.Compare a [op] [b] pos) (U8 (tOp r ta tb)):=by
 intro pins s σ H Q I h;refine wpAny_isTrue_Compare1 (thn (ha pins s σ H _ I h) fun v s1 ⟨x,H1,I1,r1,q1⟩=>thn (hb pins s1 σ H1 _ I1 q1) fun u s2 ⟨y,H2,I2,r2,q2⟩=>
  thn (ho pins s2 σ H2 x y v u _ I2 r1 r2 q2) fun c s3 ⟨z,H3,I3,r3,k,e,q3⟩=>?_) hm
 subst e;cases r3;exact tU ⟨H3,I3,q3⟩
def KI (r r':R2)(ta tb tc:TE):TE:=fun σ H Q=>ta σ H fun x H1=>tb σ H1 fun y H2=>r x y H2 fun z H3=>∃ k,z=.bl k/\
 (if k=true then tc σ H3 fun w' H4=>r' y w' H4 Q else Q (.bl false) H3)
theorem VC {gK:CmpOp}{r':R2}(ho:OpR X (tV op) r)(oH:OpR X (tV gK) r')(ha:PE X a ta)(hb:PE X b tb)(hc:PE X c tc)
  (hm:lastMarks [op,gK] [b,c]=false:=by with_unfolding_all rfl):PE X (.Compare a [op,gK] [b,c] pos) (KI r r' ta tb tc):=by
 intro pins s σ H Q I h;refine Compare_chain (thn (ha pins s σ H _ I h) fun v s1 ⟨x,H1,I1,r1,q1⟩=>chain_link (thn (hb pins s1 σ H1 _ I1 q1) fun u s2 ⟨y,H2,I2,r2,q2⟩=>
  thn (ho pins s2 σ H2 x y v u _ I2 r1 r2 q2) fun d s3 ⟨z,H3,I3,r3,k,e,q3⟩=>?_)) hm
 subst e;cases r3;refine tU ?_;cases k with
 | false=>exact ite_ff ⟨.bl false,H3,I3,rfl,q3⟩
 | true=>exact ite_tt (chain_last (thn (hc pins s3 σ H3 _ I3 q3) fun w' s4 ⟨z',H4,I4,r4,q4⟩=>oH pins s4 σ H4 y z' u w' Q I4 r2 r4 q4))
theorem Fj {gK:CmpOp}{r':R2}(ho:OpR X (tV op) r)(oH:OpR X (tV gK) r')(ha:PE X a ta)(hb:PE X b tb)(hc:PE X c tc)
  (hm:lastMarks [op,gK] [b,c]=false:=by with_unfolding_all rfl):PT X (.Compare a [op,gK] [b,c] pos) (U8 (KI r r' ta tb tc)):=by
 intro pins s σ H Q I h;refine isTrue_chain (thn (ha pins s σ H _ I h) fun v s1 ⟨x,H1,I1,r1,q1⟩=>test_link (thn (hb pins s1 σ H1 _ I1 q1) fun u s2 ⟨y,H2,I2,r2,q2⟩=>
  thn (ho pins s2 σ H2 x y v u _ I2 r1 r2 q2) fun d s3 ⟨z,H3,I3,r3,k,e,q3⟩=>?_)) hm
 subst e;cases r3;refine tU ?_;cases k with
 | false=>
  obtain⟨k',e',q'⟩:=q3;cases e';exact ite_ff ⟨H3,I3,q'⟩
 | true=>
  refine ite_tt (test_last (thn (hc pins s3 σ H3 _ I3 q3) fun w' s4 ⟨z',H4,I4,r4,q4⟩=>thn (oH pins s4 σ H4 y z' u w' _ I4 r2 r4 q4) fun d' s5 ⟨z2,H5,I5,r5,k2,e2,q5⟩=>?_));subst e2;cases r5;exact tU ⟨H5,I5,q5⟩
theorem Vq:(uR:Nat)<2^63:=by rw[rg];decide
theorem X8:OpR X (rh .Add) (fun x y H Q=>∃ i j,x=.str i/\y=.str j/\i.length+j.length<=uR/\Q (.str (i++j)) H):=by
 intro pins s σ H x y v u Q I rx ry h;obtain⟨i,j,rfl,rfl,hz,q⟩:=h;obtain⟨t,rfl⟩:=rx;obtain⟨t',rfl⟩:=ry;exact add_str (fun t' tk=>⟨.str (i++j),H,I.tok _,⟨_,rfl⟩,q⟩) hz
theorem YX {x:V}(r:ZX [x] us):∃ u,us=[u]/\ZS x u:=by
 cases r with
 | cons r1 r2=>cases r2;exact⟨_,Z,r1⟩
theorem TN {x y:V}(r:ZX [x,y] us):∃ u w',us=[u,w']/\ZS x u/\ZS y w':=by
 cases r with
 | cons r1 r2=>
  cases r2 with
  | cons r3 r4=>cases r4;exact⟨_,_,Z,r1,r3⟩
theorem SL:Y7 X (.builtin "abs") (fun xs H Q=>∃ i,xs=[.int i]/\Q (.int (if i<0 then -i else i)) H):=by
 intro pins s σ H xs us Q I r h;obtain⟨i,rfl,q⟩:=h;obtain⟨u,rfl,t,rfl⟩:=YX r;exact call_abs_int fun u tk=>⟨.int (if i<0 then -i else i),H,I.tok _,⟨_,rfl⟩,q⟩
theorem Ht:Y7 X (.type "int") (fun xs H Q=>(∃ i,xs=[.int i]/\Q (.int i) H)\/∃ k,xs=[.bl k]/\Q (.int (if k then 1 else 0)) H):=by
 intro pins s σ H xs us Q I r h;rcases h with ⟨i,rfl,q⟩|⟨k,rfl,q⟩;obtain⟨u,rfl,t,rfl⟩:=YX r;exact call_int_int ⟨.int i,H,I,⟨_,rfl⟩,q⟩;obtain⟨u,rfl,r1⟩:=YX r;cases r1;exact call_int_bool ⟨.int (if k then 1 else 0),H,I.tok _,⟨_,rfl⟩,q⟩
theorem Wp:Y7 X (.type "str") (fun xs H Q=>∃ i,xs=[.int i]/\i.natAbs.log2<1920/\Q (.str (toString i)) H):=by
 intro pins s σ H xs us Q I r h;obtain⟨i,rfl,hz,q⟩:=h;obtain⟨u,rfl,t,rfl⟩:=YX r;exact PySem.P.str_of_int hz ⟨.str _,H,I.tok _,⟨_,rfl⟩,q⟩
end
structure VS (h:Heap)(x dx C:Addr)(mA:Str->Option uT):Prop where
 obj:h.get? x=some (xk C dx)
 ns:h.Ns1 dx mA
 ne:dx≠x
variable{dx:Addr}{mA:Str->Option uT}
theorem NP (n:h.Ns1 dx mA):∃ od,h.get? dx=some od/\∀ name,va name od=some (mA name):=by
 obtain⟨o,es,ep,ho,hd,hk,_,hm⟩:=n;refine⟨o,ho,fun name=>?_⟩;have e:=hm name;unfold nsFind findBy at e;rw[<-Array.find?_toList]at e;unfold va;rw[hd];dsimp only;split
 ·rename_i y q;rw[q]at e;exact tX some e
 ·rename_i q;rw[q]at e;have a:es.toList.any (·.refKey)=false:=by
   rw[List.any_eq_false];intro y hy;obtain⟨z,t,gp⟩:=hk y (Array.mem_toList_iff.mp hy);simp[DictEntry.refKey,gp]
  have a':¬ es.toList.any (·.refKey)=true:=by rw[a];exact yC
  rw[uL a'];exact tX some e
variable{C:Addr}
theorem VS.look {x:Addr}(I:VS h x dx C mA):∃ od,xu h x (xk C dx) C (some od)/\∀ name,va name od=some (mA name):=
 let ⟨od,ho,hl⟩:=NP I.ns
 ⟨od,⟨I.obj,rfl,rfl,ho⟩,hl⟩
variable{pl:Sem Bool}{kw:List (Str×uT)}
section
variable {prog:uE}{x f:Addr}{name:Str}{v:uT}
theorem Di {expr:Bool}(X:K.In s.heap)(I:VS s.heap x dx C mA)(hg:wG K C name=true)(hh:xE K C=true)
  (ha:yD K (.ref C) name=some none) (hv:mA name=some v) (hv':vI v=true) (h:Q v { s with toks:=s.toks+1 }) :
  uP (uM prog w) A (getAttr (.ref x) name expr) Q E s:=by
 obtain⟨od,J,hl⟩:=I.look;exact PySem.W.get_value X J (vx hg).1 (PySem.W.findObj_own hh ha rfl (by rw[hl,hv])) hv' h
theorem FJ {Q:uT×List uT->uS->Prop}(X:K.In s.heap)(I:VS s.heap x dx C mA)(hg:wG K C name=true)
  (hf:yD K (.ref C) name=some (some (.ref f))) (ht:wg K (.ref f)=true) (hv:mA name=none) (h:Q (.ref f,[.ref x]) s) :
  uP (uM prog w) A (pO (.ref x) name pl) Q E s:=by
 obtain⟨od,J,hl⟩:=I.look;exact PySem.W.method_fn X J (vx hg).1 (vx hg).2 hf (tf.mp ht) (by show (va name od).map (·.isSome)=some false;rw[hl,hv];rfl) h
theorem Ec {ns:List Str}{Q:Unit->uS->Prop}(X:K.In s.heap)(I:VS s.heap x dx C mA)
  (hs:yD K (.ref C) "__setattr__"=some (some (.builtin "object.__setattr__"))) (hp:vR K C=true) (ht:PySem.W.takerIn K C name=some none) (hh:xE K C=true)
  (hw:PySem.Within mA ns) (hsz:ns.length<=uR)
  (h:∀ h',VS h' x dx C (fun y=>if y=name then some v else mA y)->xb dx s.heap h'->Q () { s with heap:=h',toks:=s.toks+2 }) :
  uP (uM prog w) A (setAttr (.ref x) name v) Q E s:=by
 obtain⟨od,J,hl⟩:=I.look;refine PySem.W.set_plain X J hs (PySem.W.osa_open (s:={ s with toks:=s.toks+1 }) (r:=none) X J hp ht fun b=>?_);obtain⟨cd,hc,lY⟩:=PySem.W.any_some hh;have hx:s.heap.get? x=some ⟨.ref C,some dx,.plain,#[]⟩:=I.obj;refine uV (uQ (uV (uV (wpAny_loadPart hx (uV (PySem.W.Looks.here (s:={ s with toks:=s.toks+1 }) (PySem.W.looks_clsIn X hc) ?_))))));rw[lY];refine uQ (a:=some dx) (uV (uQ (uV ?_)));refine wpAny_nsSet1 (s:={ s with toks:=s.toks+1 }) I.ns fun h' gw iG=>?_;obtain⟨oD,esD,epD,hoD,hdD,hcD⟩:=gw.count (PySem.Within.cons name v hw);refine uV (wpAny_lookBehind hoD (by rw[hdD];exact pastItsLine_dict (xQ hcD (by rw[yi];omega))) ?_);exact uQ (h _ ⟨(iG.2 _ (uc I.ne)).trans I.obj,gw,I.ne⟩ iG)
theorem F9 {R:Result->uS->Prop}{vs:List uT}(X:K.In s.heap)(hm:wa K C=true)
  (hi:yD K (.ref C) "__init__"=some (some (.ref f))) (hf:wY K (.ref f)=some (.type "function"))
  (h:rL (uM prog w) (A.under (.builtin "type.__call__" ⟨.ref C::vs,kw⟩)) (.call (.ref f) ⟨.ref (s.heap.objs.size+1)::vs,kw⟩) (PySem.W.InitBack (s.heap.objs.size+1) R)
   { s with heap:=(s.heap.push xD).push (xk C s.heap.objs.size) }) :
  rL (uM prog w) A (.call (.ref C) ⟨vs,kw⟩) R s:=by
 obtain⟨hh,g,d,t,os⟩:=s;exact PySem.W.make_core (PySem.W.makes_of X hm) (wu X hi) (fun self=>PySem.W.bind_fn X self hf) (.inl rfl) h
end
noncomputable def Zl (f:Str)(v:V):List (Str×V)->List (Str×V)
 | []=>[(f,v)]
 | (g,x)::r=>if g=f then (g,v)::r else (g,x)::Zl f v r
theorem Xp (f g:Str)(v:V):∀ fs:List (Str×V),(Zl f v fs).lookup g=if g=f then some v else fs.lookup g
 | []=>by
  show xx g [(f,v)]=_;by_cases h:g=f;have hb:(g==f)=true:=tf.mpr h;simp only[xx,hb,uK h];have hb:(g==f)=false:=tQ.mpr h;simp only[xx,hb,uL h]
 | (k,x)::r=>by
  have ih:=Xp f g v r;rw[show Zl f v ((k,x)::r)=(if k=f then (k,v)::r else (k,x)::Zl f v r) from rfl];by_cases hk:k=f;rw[uK hk];by_cases h:g=k;have hb:(g==k)=true:=tf.mpr h;simp only[xx,hb,uK (h.trans hk)];have hb:(g==k)=false:=tQ.mpr h;simp only[xx,hb,uL (fun e:g=f=>h (e.trans hk.symm))];rw[uL hk];by_cases h:g=k;have hb:(g==k)=true:=tf.mpr h;simp only[xx,hb,uL (fun e:g=f=>hk (h.symm.trans e))];have hb:(g==k)=false:=tQ.mpr h;simp only[xx,hb];exact ih
theorem QL (f:Str)(v:V):∀ fs:List (Str×V),f∈(Zl f v fs).map (·.1)/\∀ g,g∈fs.map (·.1)->g∈(Zl f v fs).map (·.1)
 | []=>⟨by simp[Zl],fun g h=>by simp at h⟩
 | (k,x)::r=>by
  obtain⟨i1,i2⟩:=QL f v r;rw[show Zl f v ((k,x)::r)=(if k=f then (k,v)::r else (k,x)::Zl f v r) from rfl];by_cases hk:k=f;rw[uK hk];subst hk;exact⟨by simp,fun g h=>by simpa using h⟩;rw[uL hk];refine⟨?_,fun g h=>?_⟩;rw[ye];exact yx _ i1;rw[ye]at h ⊢;rcases yl.mp h with e|e;exact yl.mpr (.inl e);exact yx _ (i2 g e)
theorem N9 (f:Str)(v:V):∀ fs:List (Str×V),(Zl f v fs).length<=fs.length+1
 | []=>by simp[Zl]
 | (k,x)::r=>by
  have ih:=N9 f v r;rw[show Zl f v ((k,x)::r)=(if k=f then (k,v)::r else (k,x)::Zl f v r) from rfl];by_cases hk:k=f;rw[uK hk,yi,yi];omega;rw[uL hk,yi,yi];omega
theorem YO.some_of {o:Option uT}(r:YO (some v) o):∃ u,o=some u/\ZS v u:=by
 cases o with
 | none=>exact (show False from r).elim
 | some u=>exact⟨u,Z,r⟩
theorem YO.none_of {o:Option uT}(r:YO none o):o=none:=by
 cases o with
 | none=>rfl
 | some u=>exact (show False from r).elim
theorem NN (r:ZS v u):vI u=true:=by
 cases v with
 | non=>cases (show u=uk from r);rfl
 | bl b=>cases (show u=tj b from r);rfl
 | int i=>obtain⟨t,e⟩:=(show ∃ t,u=qV i t from r);cases e;rfl
 | str x=>obtain⟨t,e⟩:=(show ∃ t,u=pP x t from r);cases e;rfl
 | byt b=>obtain⟨t,e⟩:=(show ∃ t,u=Value.bytes b t from r);cases e;rfl
 | flt b=>obtain⟨t,e⟩:=(show ∃ t,u=Value.float b t from r);cases e;rfl
 | ref a=>cases (show u=uI a from r);rfl
 | ty n=>cases (show u=tP n from r);rfl
variable{fs:List (Str×V)}
section
variable {fs':List (Str×V)}
theorem R9 (hok:HOk P w H h)(e:H a=some (.ins C dx fs)):∃ mA,VS h a dx C mA/\(∀ f,YO (fs.lookup f) (mA f))/\PySem.Within mA (fs.map (·.1))/\fs.length<=1000/\H dx=some (.own a):=by
 obtain⟨d,z,ne,ob,mA,n,r,q⟩:=(show ZC P w H h a (.ins C dx fs) from hok a _ e);exact⟨mA,⟨ob,n,ne⟩,r,q,z,d⟩
end
structure Cls (K:yS)(C:Addr):Prop where
 pg:wG K C tu=true
 hd:xE K C=true
 po:vR K C=true
 sa:yD K (.ref C) "__setattr__"=some (some (.builtin "object.__setattr__"))
theorem Cls.get (c:Cls K C)(f:Str):wG K C f=true:=c.pg
def YG (K:yS)(C:Addr)(f:Str):Prop:=yD K (.ref C) f=some none
theorem YG.taker {f:Str}(n:YG K C f):PySem.W.takerIn K C f=some none:=by
 unfold PySem.W.takerIn;rw[show yD K (.ref C) f=some none from n];rfl
structure UZ (K:yS)(C:Addr)(m:Str)(f:Addr):Prop where
 at_:yD K (.ref C) m=some (some (.ref f))
 fn:wg K (.ref f)=true
 kp:yf K (.ref f)=true
variable{m:Str}{prog:uE}
section
variable {f:Str}
theorem Ig {b:Bool}(I:Inv X pins σ H s)(e:H a=some (.ins C dx fs))(c:Cls X.K C)(n:YG X.K C f)(l:fs.lookup f=some v)
  (h:∀ u s',Inv X pins σ H s'->ZS v u->Q u s'):uP (uM X.prog X.w) A (getAttr (.ref a) f b) Q E s:=by
 obtain⟨mA,O,r,_,_,_⟩:=R9 I.hok e;obtain⟨u,hu,ru⟩:=YO.some_of (v:=v) (o:=mA f) (by rw[<-l];exact r f);exact Di I.kIn O (c.get f) c.hd n hu (NN ru) (h u _ (I.tok _) ru)
theorem QR {g:Addr}{Q:uT×List uT->uS->Prop}(I:Inv X pins σ H s)(e:H a=some (.ins C dx fs))(c:Cls X.K C)(k:UZ X.K C m g)(l:fs.lookup m=none)
  (h:Q (.ref g,[.ref a]) s):uP (uM X.prog X.w) A (pO (.ref a) m pl) Q E s:=by
 obtain⟨mA,O,r,_,_,_⟩:=R9 I.hok e;have hn:mA m=none:=YO.none_of (by rw[<-l];exact r m);exact FJ I.kIn O (c.get m) k.at_ k.fn hn h
theorem HY {y:V}{Q:Unit->uS->Prop}(I:Inv X pins σ H s)(e:H a=some (.ins C dx fs))(c:Cls X.K C)(n:YG X.K C f)(hl:fs.length<1000)(ry:ZS y u)
  (h:∀ s',Inv X pins σ (upd H a (.ins C dx (Zl f y fs))) s'->Q () s'):uP (uM X.prog X.w) A (setAttr (.ref a) f u) Q E s:=by
 obtain⟨mA,O,r,wi,_,ho⟩:=R9 I.hok e;have hz:(fs.map (·.1)).length<=uR:=by rw[yK,rg];omega
 refine Ec I.kIn O c.sa c.po n.taker c.hd wi hz fun h' O' sb=>h _ ?_;have hd:∃ o,h'.get? dx=some o:=let ⟨o,_,_,e',_⟩:=O'.ns;⟨o,e'⟩
 refine I.write (x:=a) (e:=dx) (by rw[e];exact tH) (.inr ho) (fun b q hb z=>(sb.2 b hb).trans z) hd ?_;refine⟨by rw[Z5 O.ne];exact ho,?_,O.ne,O'.obj,_,O'.ns,fun g=>?_,fun g hg=>?_⟩;have:=N9 f y fs;omega
 ·show YO ((Zl f y fs).lookup g) (if g=f then some u else mA g);rw[Xp];by_cases q:g=f;rw[uK q,uK q];exact ry;rw[uL q,uL q];exact r g
 by_cases q:g=f;rw[q];exact (QL f y fs).1;refine (QL f y fs).2 g (wi g fun z=>hg ?_);show (if g=f then some u else mA g)=none;rw[uL q];exact z
theorem Inv.made (I:Inv X pins σ H s):Inv X pins σ (upd (upd H s.heap.objs.size (.own (s.heap.objs.size+1))) (s.heap.objs.size+1) (.ins C s.heap.objs.size []))
  { s with heap:=(s.heap.push xD).push (xk C s.heap.objs.size) }:=by
 have e1:(s.heap.push xD).get? s.heap.objs.size=some xD:=yN s.heap rfl;have e2:((s.heap.push xD).push (xk C s.heap.objs.size)).get? (s.heap.objs.size+1)=some (xk C s.heap.objs.size):=by
  have:=yN (s.heap.push xD) (o:=xk C s.heap.objs.size) rfl;rwa [xV]at this
 have e3:(s.heap.push xD).Ns s.heap.objs.size (fun _=>none):=⟨xD,#[],_,e1,rfl,(fun e he=>absurd he (by simp)),fun _=>rfl⟩;have I1:=I.laid (a:=s.heap.objs.size) (o:=.own (s.heap.objs.size+1)) (h':=s.heap.push xD) (t':=s.toks) (fun b u q=>yQ _ q) (yO _) ⟨_,e1⟩;refine I1.laid (a:=s.heap.objs.size+1) (o:=.ins C s.heap.objs.size []) (t':=s.toks) (fun b u q=>yQ _ q) (Nat.le_of_eq (xV _ _)) ?_;have ne:s.heap.objs.size≠s.heap.objs.size+1:=yv (xr _);refine⟨by rw[Z5 ne,Z0],xY _,ne,e2,fun _=>none,(Heap.Ns1.of_empty e3).at fun o q=>yQ _ q,fun _=>tH,fun y hy=>absurd Z hy⟩
theorem LQ {env:Env}{f:Str}(hb:qM e f env (eval e env)=eval e env)
  (h:uP (uM prog w) A (eval e env) (fun o s₁=>uP (uM prog w) A (getAttr o f true) Q E s₁) E s):uP (uM prog w) A (eval (.Attribute e f pos) env) Q E s:=
 Attribute_any_ h (by rw[arm_eval_Attribute,hb])
end
def tFld (K:yS)(ta:TE)(f:Str):TE:=fun σ H Q=>ta σ H fun x H1=>∃ a C dx fs v,x=.ref a/\H1 a=some (.ins C dx fs)/\Cls K C/\YG K C f/\fs.lookup f=some v/\Q v H1
def Ra (K:yS)(ta tv:TE)(f:Str):TS:=fun D σ H=>tv σ H fun y H1=>ta σ H1 fun x H2=>∃ a C dx fs,x=.ref a/\H2 a=some (.ins C dx fs)/\Cls K C/\YG K C f/\fs.length<1000/\
 D.nx σ (upd H2 a (.ins C dx (Zl f y fs)))
section
variable {o value:Expr}{f:Str}{nX:Pos}{tv:TE}
theorem YM (he:PE X e ta)(hb:qM e f X.env (eval e X.env)=eval e X.env):PE X (.Attribute e f pos) (tFld X.K ta f):=by
 intro pins s σ H Q I h;refine LQ hb (thn (he pins s σ H _ I h) fun u s1 ⟨x,H1,I1,rx,a,C,dx,fs,v,ex,ea,c,n,l,q⟩=>?_);subst ex;obtain rfl:u=uI a:=rx;exact Ig I1 ea c n l fun u' s2 I2 ru=>⟨v,H1,I2,ru,q⟩
theorem WI (ha:PE X o ta)(hv:PE X value tv)(hs:rW value (some (.Attribute o f pos')) pos.line X.env=pure false):PS X (.Assign [.Attribute o f pos'] value pos) (Ra X.K ta tv f):=by
 intro pins s σ H D I h;refine plainObj_wpAny_Assign_Attribute (thn (hv pins s σ H _ I h) fun u s1 ⟨y,H1,I1,ry,q⟩=>thn (ha pins s1 σ H1 _ I1 q) fun ov s2 ⟨x,H2,I2,rx,a,C,dx,fs,ex,ea,c,n,l,q2⟩=>?_) hs;subst ex;obtain rfl:ov=uI a:=rx;exact HY I2 ea c n l ry fun s3 I3=>⟨σ,_,I3,q2⟩
end
section
variable {c:uT}{b:Bool}
inductive X9 (K:yS) (H:Hp):V->uT->Prop where
 | non:X9 K H .non (.type "NoneType")
 | bl (x:Bool):X9 K H (.bl x) (.type "bool")
 | int (i:Int):X9 K H (.int i) (.type "int")
 | str (x:Str):X9 K H (.str x) (.type "str")
 | flt (x:UInt64):X9 K H (.flt x) (.type "float")
 | lst {a:Addr} {xs:List V} (e:H a=some (.lst xs)):X9 K H (.ref a) (.type "list")
 | frz {a:Addr} {o:Obj} {xs:List V} (e:H a=some (.frz o (.lst xs))):X9 K H (.ref a) (.type "list")
 | tup {a:Addr} {xs:List V} (e:H a=some (.tup xs)):X9 K H (.ref a) (.type "tuple")
 | dK {a:Addr} {kvs:List (Key×V)} (e:H a=some (.dK kvs)):X9 K H (.ref a) (.type "dict")
 | dT {a:Addr} {kvs:List (List Key×V)} (e:H a=some (.dT kvs)):X9 K H (.ref a) (.type "dict")
 | ins {a C dx:Addr} {fs:List (Str×V)} (e:H a=some (.ins C dx fs)) (cl:Cls K C) (ha:yD K (.ref C) "__class__"=some (some (.builtin "object.__class__")))
   (hn:xC K (.builtin "object.__class__") "__get__"=some (some (.builtin "getset_descriptor.__get__"))) (htk:xj K (.builtin "object.__class__")=some true)
   (hm:xm K C (.type "object")=some true):X9 K H (.ref a) (.ref C)
theorem HK {x:V}{t:uT}(I:Inv X pins σ H s)(rx:ZS x u)(ty:X9 X.K H x t)(e:yp X.K t c=some b)(h:∀ tk,Q (.bool b) { s with toks:=tk }) :
  uP (uM X.prog X.w) A (call (.builtin "isinstance") [u,c]) Q E s:=by
 cases ty with
 | non=>cases (show u=uk from rx);exact xK PySem.W.kitx_none I.kIn tH e (fun z=>nomatch z) h
 | bl y=>cases (show u=tj y from rx);exact xK PySem.W.kitx_bool I.kIn tH e (fun z=>nomatch z) h
 | int i=>obtain⟨t,q⟩:=(show ∃ t,u=qV i t from rx);cases q;exact xK PySem.W.kitx_int I.kIn tH e (fun z=>nomatch z) h
 | str y=>obtain⟨t,q⟩:=(show ∃ t,u=pP y t from rx);cases q;exact xK PySem.W.kitx_str I.kIn tH e (fun z=>nomatch z) h
 | flt y=>obtain⟨t,q⟩:=(show ∃ t,u=Value.float y t from rx);cases q;exact xK PySem.W.kitx_float I.kIn tH e (fun z=>nomatch z) h
 | @lst a xs ea=>
  cases (show u=uI a from rx);obtain⟨_,_,n,_,h1⟩:=(show ZC X.prog X.w H s.heap a (.lst xs) from I.hok a _ ea);exact xK PySem.W.kitx_list I.kIn ⟨_,h1,rfl⟩ e (fun z=>nomatch z) h
 | @frz a ob xs ea=>
  cases (show u=uI a from rx);obtain⟨_,_,_,n,_,h1⟩:=(show ZC X.prog X.w H s.heap a (.frz ob (.lst xs)) from I.hok a _ ea);exact xK PySem.W.kitx_list I.kIn ⟨_,h1,rfl⟩ e (fun z=>nomatch z) h
 | @tup a xs ea=>
  cases (show u=uI a from rx);obtain⟨_,_,_,p⟩:=(show ZC X.prog X.w H s.heap a (.tup xs) from I.hok a _ ea);obtain⟨o,h1,h2,_⟩:=p;exact xK PySem.W.kitx_tuple I.kIn ⟨o,h1,h2⟩ e (fun z=>nomatch z) h
 | @dK a kvs ea=>
  cases (show u=uI a from rx);obtain⟨_,_,vs,_,p⟩:=(show ZC X.prog X.w H s.heap a (.dK kvs) from I.hok a _ ea);obtain⟨o,es,ep,h1,h2,_⟩:=p;exact xK PySem.W.kitx_dict I.kIn ⟨o,h1,h2.1⟩ e (fun z=>nomatch z) h
 | @dT a kvs ea=>
  cases (show u=uI a from rx);obtain⟨_,_,xs,_,o,es,ep,h1,h2,_⟩:=(show ZC X.prog X.w H s.heap a (.dT kvs) from I.hok a _ ea);exact xK PySem.W.kitx_dict I.kIn ⟨o,h1,h2.1⟩ e (fun z=>nomatch z) h
 | @ins a C dx fs ea cl ha hn htk hm=>
  cases (show u=uI a from rx);obtain⟨mA,O,_⟩:=R9 I.hok ea;obtain⟨od,J,_⟩:=O.look;exact xK (PySem.W.kitx_own (cl.get _) cl.hd ha hn htk hm) I.kIn J e (fun z=>nomatch z) h
end
structure ZK (k:Nat)(A:uq):Prop where
 hd:A.handled=none
 dp:A.depth+3*k+5<pV
 un:A.units+16*k+200<tO
theorem ZK.mono {j:Nat}(r:ZK k A)(h:j<=k):ZK j A:=⟨r.hd,by have:=r.dp;omega,by have:=r.un;omega⟩
theorem ZK.deeper {k:Nat}{A:uq}(r:ZK (k+1) A)(env:Env):ZK k (A.deeper env):=
 ⟨r.hd,by have:=r.dp;show A.depth+1+3*k+5<_;omega,by have:=r.un;show A.units+3+16*k+200<_;omega⟩
theorem Iz :(A.under (.builtin "type.__call__" ⟨.ref C::us,kw⟩)).depth=A.depth+1:=by
 first|rfl|simp[Around.under,Code.weight,Code.isCreation,Code.isGuard,Code.isCaller,Code.frames,Code.isFrame,guardIds]
theorem IA :(A.under (.builtin "type.__call__" ⟨.ref C::us,kw⟩)).units=A.units+1:=by
 first|rfl|simp[Around.under,Code.cUnits,Code.frames,Code.isFrame]
theorem ZK.make (r:ZK (k+1) A)(C:Addr)(us:List uT)(kw:List (Str×uT)):ZK k (A.under (.builtin "type.__call__" ⟨.ref C::us,kw⟩)):=
 ⟨r.hd,by have:=r.dp;rw[Iz];omega,by have:=r.un;rw[IA];omega⟩
theorem ZK.depth {k:Nat}{A:uq}(r:ZK k A):A.depth<pV:=by have:=r.dp;omega
theorem ZK.units {k:Nat}{A:uq}(r:ZK k A):A.units+64<tO:=by have:=r.un;omega
def ZG:TA:=fun _ H Q=>Q [] H
def ZL (ta:TE)(tr:TA):TA:=fun σ H Q=>ta σ H fun x H1=>tr σ H1 fun xs H2=>Q (x::xs) H2
variable{t:TA}
theorem Z7:PA X [] ZG:=fun _ _ _ _ H Q I h=>Calls.spliced_nil ⟨[],H,I,.nil,h⟩
theorem Z9 (ha:PE X e te)(hr:PA X es t)(hs:uB (e::es) X.env=(false,eval e X.env)::uB es X.env:=by rfl):PA X (e::es) (ZL te t):=by
 intro pos pins s σ H Q I h;rw[hs];show uP _ _ (spliced ((false,eval e X.env)::sL pos (uB es X.env))) _ _ s;refine Calls.spliced_cons (thn (ha pins s σ H _ I h) fun u s1 ⟨x,H1,I1,r1,q1⟩=>?_);exact thn (hr pos pins s1 σ H1 _ I1 q1) fun us s2 ⟨xs,H2,I2,r2,q2⟩=>⟨x::xs,H2,I2,.cons r1 r2,q2⟩
def Tx (t:TA):TE:=fun σ H Q=>t σ H fun xs H1=>xs.length<=uR/\∀ p,H1 p=none->Q (.ref p) (upd H1 p (.tup xs))
def VP (t:TA):TE:=fun σ H Q=>t σ H fun xs H1=>xs.length<=uR/\∀ p,H1 p=none->Q (.ref p) (upd H1 p (.lst xs))
theorem YV {x1}(h:PA X es t):PE X (.Tuple es x1 pos) (Tx t):=by
 intro pins s σ H Q I hq;refine wpAny_Tuple_spliced (thn (h pos pins s σ H _ I hq) fun us s1 ⟨xs,H1,I1,r,z,q⟩=>⟨by rw[<-r.length];exact z,?_⟩);have hf:H1 s1.heap.objs.size=none:=I1.hok.fresh (yO _);refine⟨.ref s1.heap.objs.size,upd H1 s1.heap.objs.size (.tup xs),I1.laid (t':=s1.toks) (fun b u e=>yQ _ e) (yO _) ?_,Z,q _ hf⟩;exact⟨⟨z,_,yN _ Z,Z⟩,us,r,⟨_,yN _ Z,Z,_,Z⟩⟩
theorem YU (h:PA X es t):PE X (.List es pos) (VP t):=by
 intro pins s σ H Q I hq;refine wpAny_List_spliced (thn (h pos pins s σ H _ I hq) fun us s1 ⟨xs,H1,I1,r,z,q⟩=>⟨by rw[<-r.length];exact z,?_⟩);have hf:H1 s1.heap.objs.size=none:=I1.hok.fresh (yO _);refine⟨.ref s1.heap.objs.size,upd H1 s1.heap.objs.size (.lst xs),I1.laid (t':=s1.toks) (fun b u e=>yQ _ e) (yO _) ?_,Z,q _ hf⟩;exact⟨z,us,0,r,yN _ Z⟩
noncomputable abbrev Sp:=List V->Hp->VK->XK->Prop
noncomputable abbrev CXT:=List Env->Hp->uS->XK->uT->uS->Prop
structure Ww (P:uE)(w:uw)(K:yS)(mg:Str->Option uT)(base:Heap)(A:uq)(outer:List Env)(s:uS)(H:Hp):Prop where
 frames:A.frames=some outer
 mod:Mod K mg base
 bs:∀ b o,base.get? b=some o->s.heap.get? b=some o/\H b=none
 bsz:base.objs.size<=s.heap.objs.size
 funs:s.heap.FunFrames base outer
 frf:∀ b∈frs outer,H b=none
 hok:HOk P w H s.heap
 bare:qX s.gens
def CE (outer:List Env)(P:uE)(w:uw)(H:Hp)(s:uS)(Q:VK)(u:uT)(s':uS):Prop:=
 ∃ v H',s'.os=s.os/\qX s'.gens/\Un (frs outer) [] H H' s.heap s'.heap/\HOk P w H' s'.heap/\ZS v u/\Q v H'
def CR (CX:CXT)(outer:List Env)(P:uE)(w:uw)(H:Hp)(s:uS)(Q:VK)(E:XK)(r:Result)(s':uS):Prop:=
 match r with
 | .ok (.ret u)=>CE outer P w H s Q u s'
 | .ok _=>False
 | .error e=>CX outer H s E e s'
structure Z6 (P:uE)(w:uw)(K:yS)(mg:Str->Option uT)(base:Heap)(CX:CXT)(k:Nat)(f:Addr)(fd:uC)(ps:List Str)(sp:Sp):Prop where
 len:∀ vs H Q E,sp vs H Q E->vs.length=ps.length
 run:∀ (A:uq) (outer:List Env) (s:uS) (H:Hp) (args:Args) (us:List uT) (vs:List V) (Q:VK) (E:XK),ZK k A->Ww P w K mg base A outer s H->qe s fd args (ps.zip us)->ZX vs us->sp vs H Q E->
  rL (uM P w) A (.call (.ref f) args) (CR CX outer P w H s Q E) s
variable{mg:Str->Option uT}{base:Heap}{outer:List Env}
theorem Ww.make (e:Ww P w K mg base A outer s H)(C:Addr)(us:List uT)(kw:List (Str×uT)) :
  Ww P w K mg base (A.under (.builtin "type.__call__" ⟨.ref C::us,kw⟩)) outer s H:=⟨by first|exact e.frames|(simpa [Around.under,Code.envs,Code.isFrame,pushEnvs] using e.frames),e.mod,e.bs,e.bsz,e.funs,e.frf,e.hok,e.bare⟩
section
variable {s':uS}
theorem Inv.env0 (I:Inv X pins σ H s):Ww X.prog X.w X.K X.mg X.base X.A X.stack s H:=
 ⟨I.ok.frames,I.ok.mod,I.bs,xQ I.ok.bsz I.sz,I.stack,I.stkFree,I.hok,I.bare⟩
theorem Inv.after {Q:VK}(I:Inv X pins σ H s)(h:CE X.stack X.prog X.w H s Q u s'):EP X pins σ Q u s':=by
 obtain⟨v,H',os,bare,un,hok,r,q⟩:=h;obtain⟨hh,g,d,t,os'⟩:=s';obtain rfl:os'=s.os:=os;exact⟨v,H',I.call (h':=hh) (g':=g) (d':=d) (t':=t) (ch:=[]) un hok bare (fun b z=>absurd z (by simp)),r,q⟩
end
def YR (sp:Sp)(oY:List V)(E:XK)(t:TA):TE:=fun σ H Q=>t σ H fun vs H1=>sp (vs++oY) H1 Q E
def ON (C:Addr)(m:Str)(sp:Sp)(oY:List V)(E:XK)(ta:TE)(t:TA):TE:=fun σ H Q=>ta σ H fun x H1=>∃ a dx fs,x=.ref a/\H1 a=some (.ins C dx fs)/\fs.lookup m=none/\
 t σ H1 fun vs H2=>sp (x::(vs++oY)) H2 Q E
def JC (C:Addr)(sp:Sp)(oY:List V)(E:XK)(t:TA):TE:=fun σ H Q=>t σ H fun vs H1=>∀ x dx,H1 x=none->H1 dx=none->dx≠x->
 sp (.ref x::(vs++oY)) (upd (upd H1 dx (.own x)) x (.ins C dx [])) (fun v H2=>v=.non/\Q (.ref x) H2) E
def Zn (K:yS)(fd:uC)(ps:List Str)(ds:List uT):Prop:=
 ∀ (s:uS) (us:List uT),K.In s.heap->(us++ds).length=ps.length->qe s fd ⟨us,[]⟩ (ps.zip (us++ds))
variable{fd:uC}{ps:List Str}
theorem Zn.all (h:∀ us:List uT,us.length=ps.length->qj fd ⟨us,[]⟩=pure (ps.zip us)):Zn K fd ps []:=fun s us _ hl=>by
 rw[wD]at hl ⊢;exact .of_eq (h us hl)
def YE (CX:CXT)(X:Cx)(E:XK):Prop:=∀ (pins:List (Addr×Obj)) (σ:St) (H:Hp) (s:uS) (e:uT) (s':uS),Inv X pins σ H s->CX X.stack H s E e s'->X.xe e s'
variable{vs:List V}
section
variable {CX:CXT}{f:Addr}{sp:Sp}{oY:List V}{ds:List uT}{E:XK}{p apos:Pos}{o:Expr}
theorem RZ {Q:VK}(F:Z6 X.prog X.w X.K X.mg X.base CX k f fd ps sp)(hr:ZK k X.A)(hb:Zn X.K fd ps ds)(hd:ZX oY ds)(hx:YE CX X E)
  (I:Inv X pins σ H s) (r:ZX vs us) (h:sp (vs++oY) H Q E):uP (uM X.prog X.w) X.A (call (.ref f) us) (EP X pins σ Q) X.xe s:=by
 have r2:ZX (vs++oY) (us++ds):=r.append hd;have hl:(us++ds).length=ps.length:=by rw[<-r2.length];exact F.len _ _ _ _ h
 refine rN (rT (F.run X.A X.stack s H ⟨us,[]⟩ (us++ds) (vs++oY) Q E hr I.env0 (hb s us I.kIn hl) r2 h) fun r s' hq=>?_);cases r with
 | error e=>exact hx pins σ H s e s' I hq
 | ok fl=>
  cases fl with
  | ret u=>exact I.after hq
  | next=>exact uj hq
  | brk=>exact uj hq
  | cont=>exact uj hq
theorem Xi (F:Z6 X.prog X.w X.K X.mg X.base CX k f fd ps sp)(hr:ZK k X.A)(hg:Gl X x)(hm:X.mg x=some (.ref f))(hk:yf X.K (.ref f)=true)(hb:Zn X.K fd ps ds)(hd:ZX oY ds)(hx:YE CX X E)
  (ha:PA X (e::es) t) (oQ:(x==("__debug__":Str))=false:=by decide) (he:uB (e::es) X.env=(false,eval e X.env)::uB es X.env:=by rfl) (oJ:(sL pos (uB es X.env)).any (·.1)=false:=by rfl) :
  PE X (.Call (.Name x p) (e::es) [] pos) (YR sp oY E t):=by
 intro pins s σ H Q I h;refine sU (Xz I hg hm ?_ oQ);refine w4 (h₀:=X.base) I.ok.mod.kin hk (thn (ha pos pins s σ H _ I h) fun us s1 ⟨vs,H1,I1,r,q⟩=>⟨I1.kIn,?_⟩) he oJ;exact RZ F hr hb hd hx I1 r q
theorem MM (F:Z6 X.prog X.w X.K X.mg X.base CX k f fd ps sp)(hr:ZK k X.A)(hg:Gl X x)(hm:X.mg x=some (.ref f))(hk:yf X.K (.ref f)=true)(hb:Zn X.K fd ps ds)(hd:ZX oY ds)(hx:YE CX X E)
  (oQ:(x==("__debug__":Str))=false:=by decide):PE X (.Call (.Name x p) [] [] pos) (YR sp oY E ZG):=by
 intro pins s σ H Q I h;refine sU (Xz I hg hm ?_ oQ);exact vw I.kIn hk (RZ (us:=[]) F hr hb hd hx I .nil h)
theorem Uv {pl:Sem Bool}(he:PE X o ta)(c:Cls X.K C)(hm:UZ X.K C m f)(F:Z6 X.prog X.w X.K X.mg X.base CX k f fd ps sp)(hr:ZK k X.A)(hb:Zn X.K fd ps ds)(hd:ZX oY ds)(hx:YE CX X E)(ha:PA X (e::es) t)
  (oK:uB (e::es) X.env=(false,eval e X.env)::uB es X.env:=by rfl) (oJ:(sL pos (uB es X.env)).any (·.1)=false:=by rfl)
  (ht:eval (.Call (.Attribute o m apos) (e::es) [] pos) X.env=(do
   let ov <-eval o X.env
   standAt apos.atName
   let (f,first) <-holding [ov] (pO ov m pl)
   callWith pos f first (sL pos (uB (e::es) X.env)) (backToKw pos (pT [] X.env))):=by rfl) :
  PE X (.Call (.Attribute o m apos) (e::es) [] pos) (ON C m sp oY E ta t):=by
 intro pins s σ H Q I h;refine wC (pl:=pl) (thn (he pins s σ H _ I h) fun u s1 ⟨x,H1,I1,rx,a,dx,fs,ex,ea,l,q⟩=>?_) ht;subst ex;obtain rfl:u=uI a:=rx;refine QR I1 ea c hm l ?_;refine w4 (first:=[.ref a]) (h₀:=X.base) I.ok.mod.kin hm.kp (thn (ha pos pins s1 σ H1 _ I1 q) fun us s2 ⟨vs,H2,I2,r,q2⟩=>⟨I2.kIn,?_⟩) oK oJ;exact RZ (us:=.ref a::us) (vs:=.ref a::vs) F hr hb hd hx I2 (.cons rfl r) q2
theorem Xm (he:PE X o ta)(c:Cls X.K C)(hm:UZ X.K C m f)(F:Z6 X.prog X.w X.K X.mg X.base CX k f fd ps sp)(hr:ZK k X.A)(hb:Zn X.K fd ps ds)(hd:ZX oY ds)(hx:YE CX X E)
  (ht:eval (.Call (.Attribute o m apos) [] [] pos) X.env=(do
   let ov <-eval o X.env
   standAt apos.atName
   let (f,first) <-holding [ov] (pO ov m pl)
   callWith pos f first (sL pos (uB [] X.env)) (backToKw pos (pT [] X.env))):=by rfl) :
  PE X (.Call (.Attribute o m apos) [] [] pos) (ON C m sp oY E ta ZG):=by
 intro pins s σ H Q I h;refine wC (pl:=pl) (thn (he pins s σ H _ I h) fun u s1 ⟨x,H1,I1,rx,a,dx,fs,ex,ea,l,q⟩=>?_) ht;subst ex;obtain rfl:u=uI a:=rx;refine QR I1 ea c hm l ?_;exact vw (first:=[.ref a]) I1.kIn hm.kp (RZ (us:=[.ref a]) (vs:=[.ref a]) F hr hb hd hx I1 (.cons rfl .nil) q)
structure Mk (K:yS)(C f:Addr):Prop where
 makes:wa K C=true
 init:yD K (.ref C) "__init__"=some (some (.ref f))
 fn:wg K (.ref f)=true
 kp:yf K (.ref C)=true
theorem Nf {Q:VK}(M:Mk X.K C f)(F:Z6 X.prog X.w X.K X.mg X.base CX k f fd ps sp)(hr:ZK (k+1) X.A)(hb:Zn X.K fd ps ds)(hd:ZX oY ds)
  (hx:YE CX X E) (I:Inv X pins σ H s) (r:ZX vs us)
  (h:∀ x dx,H x=none->H dx=none->dx≠x->sp (.ref x::(vs++oY)) (upd (upd H dx (.own x)) x (.ins C dx [])) (fun v H2=>v=.non/\Q (.ref x) H2) E) :
  uP (uM X.prog X.w) X.A (call (.ref C) us) (EP X pins σ Q) X.xe s:=by
 have hq:=h (s.heap.objs.size+1) s.heap.objs.size (I.hok.fresh (wJ _)) (I.hok.fresh (yO _)) (yv (xr _));have I2:=Inv.made (C:=C) I;have r2:ZX (V.ref (s.heap.objs.size+1)::(vs++oY)) (uI (s.heap.objs.size+1)::(us++ds)):=.cons rfl (r.append hd);have hl:(uI (s.heap.objs.size+1)::us++ds).length=ps.length:=by
  have e:=r2.length;rw[F.len _ _ _ _ hq]at e;exact e.symm
 refine rN (F9 (f:=f) I.kIn M.makes M.init (tf.mp M.fn) (rT (F.run _ X.stack _ _ ⟨uI (s.heap.objs.size+1)::us,[]⟩ (uI (s.heap.objs.size+1)::(us++ds)) _ _ E (hr.make C us [])
  (I2.env0.make C us []) (hb _ (uI (s.heap.objs.size+1)::us) I2.kIn hl) r2 hq) fun r s' mw=>?_))
 cases r with
 | error e=>exact hx pins σ _ _ e s' I2 mw
 | ok fl=>
  cases fl with
  | ret u=>
   obtain⟨v,H',I3,rv,ev,q3⟩:=I2.after mw;subst ev;exact⟨rv,⟨V.ref (s.heap.objs.size+1),H',I3,Z,q3⟩⟩
  | next=>exact uj mw
  | brk=>exact uj mw
  | cont=>exact uj mw
theorem So (M:Mk X.K C f)(F:Z6 X.prog X.w X.K X.mg X.base CX k f fd ps sp)(hr:ZK (k+1) X.A)(hg:Gl X x)(hm:X.mg x=some (.ref C))(hb:Zn X.K fd ps ds)(hd:ZX oY ds)(hx:YE CX X E)
  (ha:PA X (e::es) t) (oQ:(x==("__debug__":Str))=false:=by decide) (he:uB (e::es) X.env=(false,eval e X.env)::uB es X.env:=by rfl) (oJ:(sL pos (uB es X.env)).any (·.1)=false:=by rfl) :
  PE X (.Call (.Name x p) (e::es) [] pos) (JC C sp oY E t):=by
 intro pins s σ H Q I h;refine sU (Xz I hg hm ?_ oQ);refine w4 (h₀:=X.base) I.ok.mod.kin M.kp (thn (ha pos pins s σ H _ I h) fun us s1 ⟨vs,H1,I1,r,q⟩=>⟨I1.kIn,?_⟩) he oJ;exact Nf M F hr hb hd hx I1 r q
theorem Ff (M:Mk X.K C f)(F:Z6 X.prog X.w X.K X.mg X.base CX k f fd ps sp)(hr:ZK (k+1) X.A)(hg:Gl X x)(hm:X.mg x=some (.ref C))(hb:Zn X.K fd ps ds)(hd:ZX oY ds)(hx:YE CX X E)
  (oQ:(x==("__debug__":Str))=false:=by decide):PE X (.Call (.Name x p) [] [] pos) (JC C sp oY E ZG):=by
 intro pins s σ H Q I h;refine sU (Xz I hg hm ?_ oQ);exact vw I.kIn M.kp (Nf (us:=[]) M F hr hb hd hx I .nil h)
end
structure ZT (N P:List Str)(sc:rX):Prop where
 kind:sc.kind=.function
 co:sc.isCoroutine=false
 gen:sc.isGenerator=false
 nd:N.Nodup
 pre:N.take P.length=P
 par:∀ x∈P,sc.names.lookup x=some .local\/sc.names.lookup x=some .cell
 nofree:∀ y∈sc.names,y.2≠.free
theorem NI {kindOf:Str->Option r6}{x:Str}:∀ {binds:List (Str×uT)} {m:Str->Option uT},(∀ v,(x,v)∉binds)->bindL kindOf binds m x=m x
 | [],_,_=>rfl
 | (n,v)::r,m,h=>by
  unfold bindL;rw[NI fun w hw=>h w (yx _ hw)];split;have:x≠n:=by rintro rfl;exact h v xS
  simp[this];rfl
theorem Nu {kindOf:Str->Option r6}{x:Str}:∀ {binds:List (Str×uT)} {m:Str->Option uT},(∀ v,(x,v)∉binds)->bindC kindOf binds m x=m x
 | [],_,_=>rfl
 | (n,v)::r,m,h=>by
  unfold bindC;rw[Nu fun w hw=>h w (yx _ hw)];split;rfl;have:x≠n:=by rintro rfl;exact h v xS
  simp[this]
theorem NH {kindOf:Str->Option r6}{x:Str}{v:uT}:∀ {P:List Str} {vs:List uT} {i:Nat} {m:Str->Option uT},P.Nodup->P[i]?=some x->vs[i]?=some v->kindOf x=some .local->
  bindL kindOf (P.zip vs) m x=some v
 | [],_,_,_,_,h,_,_=>by simp at h
 | _::_,[],_,_,_,_,h,_=>by simp at h
 | p::P,w::vs,0,m,nd,h1,h2,hk=>by
  simp at h1 h2;subst h1;subst h2;show bindL kindOf ((p,w)::P.zip vs) m p=_;unfold bindL;rw[NI fun v hv=>(wU.mp nd).1 (vt hv).1,uK hk];simp
 | p::P,w::vs,i+1,m,nd,h1,h2,hk=>by
  show bindL kindOf ((p,w)::P.zip vs) m x=_;unfold bindL;exact NH (i:=i) (wU.mp nd).2 (by simpa using h1) (by simpa using h2) hk
theorem NA {kindOf:Str->Option r6}{x:Str}{v:uT}:∀ {P:List Str} {vs:List uT} {i:Nat} {m:Str->Option uT},P.Nodup->P[i]?=some x->vs[i]?=some v->kindOf x≠some .local->
  bindC kindOf (P.zip vs) m x=some v
 | [],_,_,_,_,h,_,_=>by simp at h
 | _::_,[],_,_,_,_,h,_=>by simp at h
 | p::P,w::vs,0,m,nd,h1,h2,hk=>by
  simp at h1 h2;subst h1;subst h2;show bindC kindOf ((p,w)::P.zip vs) m p=_;unfold bindC;rw[Nu fun v hv=>(wU.mp nd).1 (vt hv).1,uL hk];simp
 | p::P,w::vs,i+1,m,nd,h1,h2,hk=>by
  show bindC kindOf ((p,w)::P.zip vs) m x=_;unfold bindC;exact NA (i:=i) (wU.mp nd).2 (by simpa using h1) (by simpa using h2) hk
noncomputable def start (N:List Str)(vs:List V):St:=vs.map some++wF (N.length-vs.length) none
noncomputable def Zb (CX:CXT)(P:uE)(w:uw)(K:yS)(mg:Str->Option uT)(base:Heap)(N:List Str)(qual:Str)(scope:rX)(f:Addr)(cd:uT)(A:uq)(outer:List Env)(s:uS)(H:Hp)(E:XK):Cx where
 prog:=P
 w:=w
 K:=K
 mg:=mg
 base:=base
 A:=A.deeper (rC qual scope s.heap.objs.size f cd)
 N:=N
 s₀:=s
 H₀:=H
 env:=rC qual scope s.heap.objs.size f cd
 outer:=outer
 stack:=rC qual scope s.heap.objs.size f cd::outer
 ex:=[]
 calm:=true
 fn:=fun _=>true
 pn:=[]
 xe:=fun e s'=>uP (uM P w) (A.deeper (rC qual scope s.heap.objs.size f cd)) (leaving (rC qual scope s.heap.objs.size f cd) e) (fun _ kJ=>CX outer H s E e kJ) (fun e' kJ=>CX outer H s E e' kJ) s'
theorem M1 {sc:rX}(h:sc.names.lookup x=some .cell):∃ c,(cellsFrom n sc.names []).lookup x=some c:=by
 have q:=vV sc.names n [] (.inl h);exact sE.mp q
variable{CX:CXT}{scope:rX}
theorem Nq {N:List Str}{qual:Str}{f:Addr}{cd:uT}{s1:uS}{E:XK}
  (S:ZT N ps scope) (hd:A.handled=none) (e0:Ww P w K mg base A outer s H) (hl:vs.length=ps.length) (r:ZX vs us)
  (x:InCallC s s.heap.objs.size (bindL (rC qual scope s.heap.objs.size f cd).kindOf (ps.zip us) fun _=>none) (cellsFrom (s.heap.objs.size+1) scope.names []) (bindC (rC qual scope s.heap.objs.size f cd).kindOf (ps.zip us) fun _=>none) s1) :
  Inv (Zb CX P w K mg base N qual scope f cd A outer s H E) [] (start N vs) H s1:=by
 have oJ:ps.length<=N.length:=by have:=tX wB S.pre;rw[xy]at this;omega
 obtain⟨h1,tk,rfl,hk⟩:=x.done;have cS:∀ b:Addr,b∉(Zb CX P w K mg base N qual scope f cd A outer s H E).ex:=fun b z=>absurd (show b∈([]:List Addr) from z) (by simp);refine⟨⟨e0.mod,S.kind,Z,Z,yO _,fun y z c h1 h2=>?_,fun y hy=>?_,fun y c _ h=>?_,fun _=>hd,Around.frames_deeper e0.frames,.inr ⟨Z,Z⟩,fun b z=>absurd z (cS b),e0.bs,e0.bsz,fun b _ _=>cS b,fun b z=>absurd z (cS b),e0.funs,e0.frf⟩,
  Z,e0.bare,Un.kept hk,⟨_,x.toInCall.ns,fun i y v h1 h2 h3=>?_⟩,fun y c h=>⟨_,x.cell y c h⟩,e0.hok.fresh (yO _),fun y c h=>?_,fun p hp=>absurd (show p∈([]:List (Addr×Obj)) from hp) (by simp),e0.hok.kept hk,?_⟩
 exact name_of_addr x.apart (r9 h1) (r9 h2);have hy:scope.names.lookup y=some .cell\/scope.names.lookup y=some .free:=hy;rcases hy with hy|hy;exact M1 hy;exact absurd rfl (S.nofree _ (r9 hy));exact wK (x.above y c (r9 h))
 ·have hi:i<vs.length:=by
   unfold start at h2;by_cases hi:i<vs.length;exact hi;rw[xX (by simpa using hi)]at h2;rw[uY]at h2;split at h2<;>cases h2
  have ha:vs[i]?=some v:=by
   unfold start at h2;rw[yq (by simpa using hi),yw]at h2;cases e:vs[i]? with
   | none=>rw[e]at h2;cases h2
   | some a=>rw[e]at h2;cases h2;rfl
  obtain⟨u,hu,rv⟩:=r.get ha;have hp:ps[i]?=some y:=by
   rw[<-S.pre,List.getElem?_take_of_lt (by omega)];exact h1
  have ndP:ps.Nodup:=by rw[<-S.pre];exact S.nd.sublist (List.take_sublist _ _)
  refine⟨u,rv,?_⟩;rcases S.par y (yA hp) with k|k;exact .inl ⟨k,NH ndP hp hu k⟩;obtain⟨c,e⟩:=M1 (n:=s.heap.objs.size+1) k;refine .inr ⟨.inl k,c,e,?_⟩;have q:=x.cell y c e;rw[NA ndP hp hu (by show scope.names.lookup y≠_;rw[k];decide)]at q;exact q
 exact e0.hok.fresh (wK (x.above y c (r9 h)));unfold start;show _=N.length;rw[yJ,yK,vO];omega
theorem O7 {f:Addr}{name qual:Str}{params:Arguments}{dV kV doc pm pK ct oc:uT}{an od:Option Addr}
  {oR:Array (Option uT)} {N ps:List Str} {sp:Sp} (lk:K.lookup f=some ⟨oc,od,.func (yd name qual params body scope dV kV doc pm an pK ct),oR⟩) (oP:xG K pK qual=true) (S:ZT N ps scope)
  (len:∀ vs H Q E,sp vs H Q E->vs.length=ps.length)
  (oS:∀ (A:uq) (outer:List Env) (s:uS) (H:Hp) (vs:List V) (Q:VK) (E:XK),ZK k (A.deeper (rC qual scope s.heap.objs.size f pK))->sp vs H Q E->
   ∃ t,PSs (Zb CX P w K mg base N qual scope f pK A outer s H E) body t/\t { nx:=fun _ H'=>Q .non H',rt:=Q } (start N vs) H) :
  Z6 P w K mg base CX (k+1) f (yd name qual params body scope dV kV doc pm an pK ct) ps sp:=by
 refine⟨len,fun A outer s H args us vs Q E hr e0 hb r ou=>?_⟩;have hl:=len _ _ _ _ ou;have KX:K.In s.heap:=e0.mod.kin.keeps fun b o e=>(e0.bs b o e).1;have lim:s.heap.NoLimit:=e0.mod.nolimit.keeps fun b o e=>(e0.bs b o e).1;have j0:∀ y∈ps.zip us,scope.names.lookup y.1=some .local\/(scope.names.lookup y.1=some .cell/\((cellsFrom (s.heap.objs.size+1) scope.names []).lookup y.1).isSome=true):=fun ⟨n,v⟩ hy=>by
  rcases S.par n (vt hy).1 with q|q;exact .inl q;exact .inr ⟨q,vV _ _ _ (.inl q)⟩
 refine codeAny_call_function hr.depth (KX _ _ lk) rfl S.co S.gen rfl (PySem.W.codeRec_of KX oP) (hb _ _ _ _ ?_);refine wpAny_newFunctionEnv_cells S.kind j0 fun env he s1 x=>?_;subst he;refine⟨lim.keeps x.toInCall.keep,codeAny_func ?_⟩;obtain⟨t,ht,hq⟩:=oS A outer s H vs Q E (hr.deeper _) ou;have I:Inv (Zb CX P w K mg base N qual scope f pK A outer s H E) [] (start N vs) H s1:=Nq S hr.hd e0 hl r x;refine uA (ht [] s1 (start N vs) H _ I hq) (fun fl s' hs=>?_) fun e s' hs=>hs;have fin:∀ {σ':St} {H':Hp} {v:V} {u:uT},Inv (Zb CX P w K mg base N qual scope f pK A outer s H E) [] σ' H' s'->ZS v u->Q v H'->CE outer P w H s Q u s':=
  fun {σ' H' v u} J rv q=>⟨v,H',J.os,J.bare,J.base,J.hok,rv,q⟩
 cases fl with
 | ret u=>
  obtain⟨v,σ',H',J,rv,q⟩:=hs;exact fin J rv q
 | next=>
  obtain⟨σ',H',J,q⟩:=hs;exact fin (v:=V.non) (u:=uk) J rfl q
 | brk=>
  obtain⟨_,_,_,q⟩:=hs;exact uj q
 | cont=>
  obtain⟨_,_,_,q⟩:=hs;exact uj q
section
variable {p:Pos}{id T:String}{r:List V->Hp->VK->Prop}
def tCB (r:List V->Hp->VK->Prop)(t:TA):TE:=fun σ H Q=>t σ H fun vs H1=>r vs H1 Q
theorem ZM (hc:Y7 X (.builtin id) r)(hg:Gl X x)(hm:X.mg x=none)(hv:uh x=some (.builtin id))(ha:PA X (e::es) t)(hn:x≠"__name__":=by decide)(oQ:(x==("__debug__":Str))=false:=by decide)
  (he:uB (e::es) X.env=(false,eval e X.env)::uB es X.env:=by rfl) (oJ:(sL pos (uB es X.env)).any (·.1)=false:=by rfl):PE X (.Call (.Name x p) (e::es) [] pos) (tCB r t):=by
 intro pins s σ H Q I h;refine sU (Wc I hg hm hv ?_ hn oQ);exact PyProof.Rows.callWith_builtin1 (thn (ha pos pins s σ H _ I h) fun us s1 ⟨vs,H1,I1,r1,q1⟩=>hc pins s1 σ H1 vs us Q I1 r1 q1) he oJ
theorem Y0 (hc:Y7 X (.type T) r)(hg:Gl X x)(hm:X.mg x=none)(hv:uh x=some (.type T))(ha:PA X (e::es) t)(hn:x≠"__name__":=by decide)(oQ:(x==("__debug__":Str))=false:=by decide)
  (he:uB (e::es) X.env=(false,eval e X.env)::uB es X.env:=by rfl) (oJ:(sL pos (uB es X.env)).any (·.1)=false:=by rfl):PE X (.Call (.Name x p) (e::es) [] pos) (tCB r t):=by
 intro pins s σ H Q I h;refine sU (Wc I hg hm hv ?_ hn oQ);exact sO (thn (ha pos pins s σ H _ I h) fun us s1 ⟨vs,H1,I1,r1,q1⟩=>hc pins s1 σ H1 vs us Q I1 r1 q1) he oJ
end
end L2
namespace HT
open PySem PyProof.Rows
noncomputable def lexLt:List Int->List Int->Bool
 | [],[]=>false
 | [],_::_=>true
 | _::_,[]=>false
 | x::xs,y::ys=>if x=y then lexLt xs ys else decide (x<y)
theorem lexLt_cons (x y:Int)(xs ys:List Int):lexLt (x::xs) (y::ys)=if x=y then lexLt xs ys else decide (x<y):=rfl
theorem lexLt_nil_nil:lexLt [] []=false:=rfl
theorem lexLt_nil_cons (y:Int)(ys:List Int):lexLt [] (y::ys)=true:=rfl
theorem lexLt_cons_nil (x:Int)(xs:List Int):lexLt (x::xs) []=false:=rfl
theorem eqAt_int (A:uq)(s:uS)(a:Int)(t:Tok)(c:Int)(u:Tok):∃ e,rB A s (.int a t) (.int c u) e/\(e=true↔a=c):=
 ⟨(a==c),qG a t c u,by simp⟩
theorem rcLt_int (A:uq)(s:uS)(a:Int)(t:Tok)(c:Int)(u:Tok)(prog:uE)(w:uw)(E:uT->uS->Prop)(Q:uT->uS->Prop)(h:Q (.bool (decide (a<c))) s) :
  uP (uM prog w) A (richCompare .Lt (.int a t) (.int c u)) Q E s:=
 (PyProof.Rows.lt_int h:uP (uM prog w) A (tV .Lt (.int a t) (.int c u)) Q E s)
section
variable {prog:uE}{w:uw}{A:uq}{E:uT->uS->Prop}{s:uS}
noncomputable def sIx (n d:Nat):Option Int->Nat
 | none=>d
 | some v=>if v<0 then (v+(n:Int)).toNat else min v.toNat n
theorem sIx_nat (n d k:Nat):sIx n d (some (k:Int))=min k n:=by
 show (if (k:Int)<0 then ((k:Int)+(n:Int)).toNat else min (k:Int).toNat n)=min k n;rw[uL (by omega),yh]
end
end HT
namespace L2
open PySem PySem.Spec PyProof.Rows
noncomputable abbrev TO:=St->Hp->(Option Int->Hp->Prop)->Prop
def PO (X:Cx)(e:Option Expr)(t:TO):Prop:=
 ∀ (pins:List (Addr×Obj)) (s:uS) (σ:St) (H:Hp) (Q:Option Int->Hp->Prop),Inv X pins σ H s->t σ H Q->
  uP (uM X.prog X.w) X.A (evalPart e X.env) (fun u s'=>∃ o H',Inv X pins σ H' s'/\IsPart u o/\Q o H') X.xe s
noncomputable def Qi:TO:=fun _ H Q=>Q none H
noncomputable def Pf (t:TE):TO:=fun σ H Q=>t σ H fun x H1=>∃ i,x=.int i/\Q (some i) H1
theorem Io {ns:List Int}:∀ {us:List uT},ZX (ns.map V.int) us->tE us ns:=by
 induction ns with
 | nil=>intro us r;rw[List.map_nil]at r;cases r;exact .nil
 | cons n ns ih=>
  intro us r;rw[ye]at r;cases r with
  | cons r1 r2=>
   obtain⟨t,e⟩:=r1;subst e;exact .cons n t (ih r2)
variable{e:Expr}
section
variable {X:Cx}{te:TE}{lo hi:Option Expr}{tl th:TO}{pos p2:Pos}
theorem Qc:PO X none Qi:=by
 intro pins s σ H Q I h;rw[evalPart_none];exact uQ ⟨none,H,I,.none,h⟩
theorem Us (h:PE X e te):PO X (some e) (Pf te):=by
 intro pins s σ H Q I hw;rw[evalPart_some];refine thn (h pins s σ H _ I hw) fun u s1 ⟨x,H1,I1,r1,q1⟩=>?_;obtain⟨i,rfl,q⟩:=q1;obtain⟨t,rfl⟩:=r1;exact⟨some i,H1,I1,.int i t,q⟩
def SlR (X:Cx)(r:V->Option Int->Option Int->Hp->VK->Prop):Prop:=
 ∀ (pins:List (Addr×Obj)) (s:uS) (σ:St) (H:Hp) (x:V) (v vl vu:uT) (lo hi:Option Int) (sl:Addr) (Q:VK),Inv X pins σ H s->ZS x v->s.heap.IsSliceOf sl vl vu .none->IsPart vl lo->IsPart vu hi->r x lo hi H Q->
  ∃ T id,typeLookup (.type T) "__getitem__"=pure (some (.builtin id))/\s.TypeIs v T/\uP (uM X.prog X.w) X.A (getItem v (.ref sl)) (EP X pins σ Q) X.xe s
def tSl (r:V->Option Int->Option Int->Hp->VK->Prop)(te:TE)(tl th:TO):TE:=fun σ H Q=>te σ H fun x H1=>tl σ H1 fun l H2=>th σ H2 fun u H3=>r x l u H3 Q
theorem SW {r:V->Option Int->Option Int->Hp->VK->Prop}(hr:SlR X r)(he:PE X e te)(hl:PO X lo tl)(hu:PO X hi th):PE X (.Subscript e (.Slice lo hi none p2) pos) (tSl r te tl th):=by
 intro pins s σ H Q I h;refine Subscript_ (thn (he pins s σ H _ I h) fun v s1 ⟨x,H1,I1,r1,q1⟩=>?_);refine wpAny_Slice (thn (hl pins s1 σ H1 _ I1 q1) fun vl s2 ⟨l,H2,I2,pl,q2⟩=>thn (hu pins s2 σ H2 _ I2 q2) fun vu s3 ⟨u,H3,I3,pu,q3⟩=>?_);rw[evalPart_none];refine uQ ?_;have I4:Inv X pins σ H3 { s3 with heap:=s3.heap.push { cls:=.type "slice",data:=.fields #[vl,vu,.none] } }:=I3.kept (t':=s3.toks) fun b ob q=>yQ _ q;obtain⟨T,id,hT,ht,hg⟩:=hr pins { s3 with heap:=s3.heap.push { cls:=.type "slice",data:=.fields #[vl,vu,.none] } } σ H3 x v vl vu l u s3.heap.objs.size Q I4 r1 (Heap.IsSliceOf.new ..) pl pu q3;show uP (uM X.prog X.w) X.A (subscriptTail e (.Slice lo hi none p2) v (.ref s3.heap.objs.size)) (EP X pins σ Q) X.xe { s3 with heap:=s3.heap.push { cls:=.type "slice",data:=.fields #[vl,vu,.none] } };exact tail_any (ops:=[.ref s3.heap.objs.size,v]) ht hT hg (by with_unfolding_all rfl)
noncomputable def Wr (xs:List V)(lo hi:Option Int):List V:=(xs.drop (HT.sIx xs.length 0 lo)).take (HT.sIx xs.length xs.length hi-HT.sIx xs.length 0 lo)
theorem IB (xs:List V)(lo hi:Option Int):(Wr xs lo hi).length<=xs.length:=by
 unfold Wr;rw[xy,List.length_drop];omega
end
noncomputable def ixN (n:Nat)(i:Int):Option Nat:=if 0<=i then (if i<n then some i.toNat else none) else if -(n:Int)<=i then some (i+n).toNat else none
variable{α:Type}
noncomputable def atI (xs:List α)(i:Int):Option α:=(ixN xs.length i).bind fun j=>xs[j]?
variable{n:Nat}
theorem Lj {i:Int}{j:Nat}(h:ixN n i=some j):seqIndex? i n=some j/\j<n/\-(n:Int)<=i/\i<n:=by
 unfold ixN at h;by_cases h0:0<=i;rw[uK h0]at h;by_cases h1:i<n;rw[uK h1]at h;have e:i.toNat=j:=uz.inj h;exact⟨by rw[seqIndex_of h0 h1,e],by omega,by omega,h1⟩;rw[uL h1]at h;cases h;rw[uL h0]at h;by_cases h1:-(n:Int)<=i;rw[uK h1]at h;have e:(i+n).toNat=j:=uz.inj h;exact⟨by rw[seqIndex_neg (by omega) h1,e],by omega,h1,by omega⟩;rw[uL h1]at h;cases h
theorem Qb {xs:List α}{i:Int}{v:α}(h:atI xs i=some v):∃ j,seqIndex? i xs.length=some j/\xs[j]?=some v/\j<xs.length/\-(xs.length:Int)<=i/\i<xs.length:=by
 unfold atI at h;cases e:ixN xs.length i with
 | none=>rw[e]at h;cases h
 | some j=>
  rw[e]at h;obtain⟨h1,h2,h3,h4⟩:=Lj e;exact⟨j,h1,h,h2,h3,h4⟩
theorem ZU {xs:List α}{j:Nat}{v:α}(h:xs[j]?=some v):atI xs (j:Int)=some v:=by
 have hj:j<xs.length:=(yP.mp h).1;have e:ixN xs.length (j:Int)=some j:=by
  unfold ixN;rw[uK (by omega),uK (by omega)];simp
 unfold atI;rw[e];exact h
def Mb (b:Expr):Prop:=∀ o i,subscripted b false o i=operate [o,i] (getItem o i)
def IxR (X:Cx)(r:R2):Prop:=
 ∀ (value slice:Expr) (pins:List (Addr×Obj)) (s:uS) (σ:St) (H:Hp) (x y:V) (v u:uT) (Q:VK),Inv X pins σ H s->ZS x v->ZS y u->r x y H Q->
  subscripted slice false v u=operate [v,u] (getItem v u)->uP (uM X.prog X.w) X.A (subscriptTail value slice v u) (EP X pins σ Q) X.xe s
def MtR (X:Cx)(id:String)(r:V->List V->Hp->VK->Prop):Prop:=
 ∀ (pins:List (Addr×Obj)) (s:uS) (σ:St) (H:Hp) (x:V) (xs:List V) (v:uT) (us:List uT) (Q:VK),Inv X pins σ H s->ZS x v->ZX xs us->r x xs H Q->
  uP (uM X.prog X.w) X.A (call (.builtin id) (v::us)) (EP X pins σ Q) X.xe s
variable{pins:List (Addr×Obj)}{σ:St}{H:Hp}{s:uS}{pL:List uT}{A:uq}{y:V}{u:uT}{T:String}
section
variable {X:Cx}{a b:Expr}{ta tb:TE}{pos:Pos}
theorem IxR.or {r r':R2}(h:IxR X r)(h':IxR X r'):IxR X (fun x y H Q=>r x y H Q\/r' x y H Q):=by
 intro value slice pins s σ H x y v u Q I rx ry q hs;rcases q with q|q;exact h value slice pins s σ H x y v u Q I rx ry q hs;exact h' value slice pins s σ H x y v u Q I rx ry q hs
theorem OP {r:R2}(hr:IxR X r)(ha:PE X a ta)(hb:PE X b tb)(hs:Mb b):PE X (.Subscript a b pos) (tOp r ta tb):=by
 intro pins s σ H Q I h;exact Subscript_ (Oz ha hb I h fun v u s2 x y H2 I2 rx ry q=>hr a b pins s2 σ H2 x y v u Q I2 rx ry q (hs _ _))
def Ot (K:yS):R2:=fun x y H Q=>∃ p xs i v,x=.ref p/\y=.int i/\SqL K H p xs/\atI xs i=some v/\Q v H
def Re (K:yS):R2:=fun x y H Q=>∃ p xs i v,x=.ref p/\y=.int i/\SqT K H p xs/\atI xs i=some v/\Q v H
def Tr:R2:=fun x y H Q=>∃ z i c,x=.str z/\y=.int i/\z.length<=uR/\atI z.cps.toList i=some c/\Q (.str ⟨#[c]⟩) H
theorem ZF:IxR X (Ot X.K):=by
 intro value slice pins s σ H x y v u Q I rx ry h hs;obtain⟨p,xs,i,z,rfl,rfl,hq,he,q⟩:=h;cases rx;obtain⟨t,rfl⟩:=ry;obtain⟨pL,r,pl,hz⟩:=I.list hq;obtain⟨j,h1,h2,h3,h4,h5⟩:=Qb he;obtain⟨w,ew,pH⟩:=r.get h2;have hl:=r.length;have hn:=Vq;have fin:EP X pins σ Q w s:=⟨z,H,I,pH,q⟩;by_cases h0:0<=i;have hj:i.toNat=j:=by
  rw[seqIndex_of h0 h5]at h1;exact uz.inj h1
 exact item_listR pl.isList h0 (by omega) (by rw[hj];simpa using ew) fin hs;have hj:(i+(pL.toArray.size:Int)).toNat=j:=by
  rw[seqIndex_neg (by omega) h4]at h1;rw[yt,<-hl];exact uz.inj h1
 exact subscriptTail_builtinR (x:=w) pl.isList.typeIs slot_list_getitem.lookup
  (wpAny_getItem_list_neg (Q:=fun r s'=>r=w/\EP X pins σ Q r s') pl.isList (by omega) (by rw[yt]<;>omega) (by omega) (by rw[hj];simpa using ew) ⟨rfl,fin⟩) hs
theorem Zp:IxR X (Re X.K):=by
 intro value slice pins s σ H x y v u Q I rx ry h hs;obtain⟨p,xs,i,z,rfl,rfl,hq,he,q⟩:=h;cases rx;obtain⟨t,rfl⟩:=ry;obtain⟨pL,r,pl,hz⟩:=I.tuple hq;obtain⟨j,h1,h2,h3,h4,h5⟩:=Qb he;obtain⟨w,ew,pH⟩:=r.get h2;have hl:=r.length;have hn:=Vq;have fin:EP X pins σ Q w s:=⟨z,H,I,pH,q⟩;exact subscriptTail_builtinR (x:=w) pl.typeIs slot_tuple_getitem.lookup
  (getItem_tuple (j:=j) (Q:=fun r s'=>r=w/\EP X pins σ Q r s') pl (by omega) (by omega) (by rw[yt,<-hl];exact h1) (by simpa using ew) ⟨rfl,fin⟩) hs
theorem KY:IxR X Tr:=by
 intro value slice pins s σ H x y v u Q I rx ry h hs;obtain⟨z,i,c,rfl,rfl,hz,he,q⟩:=h;obtain⟨t,rfl⟩:=rx;obtain⟨t',rfl⟩:=ry;obtain⟨j,h1,h2,h3,h4,h5⟩:=Qb he;have hl:z.cps.toList.length=z.length:=by simp[Str.length]
 rw[hl]at h1 h4 h5;have hn:=Vq;exact tail_any (qb s z t) slot_str_getitem.lookup (getItem_str (c:=c) (by
  have e1:decide (i < -(2^63:Int))=false:=uJ (by omega)
  have e2:decide (i≥2^63)=false:=uJ (by omega)
  rw[e1,e2,Bool.or_false]) (by rw[h1];simpa using h2) ⟨.str ⟨#[c]⟩,H,I.tok _,⟨_,rfl⟩,q⟩) hs
def rIx (K:yS):R2:=fun x y H Q=>Ot K x y H Q\/Re K x y H Q\/Tr x y H Q
theorem RY:IxR X (rIx X.K):=ZF.or (Zp.or KY)
theorem Iq (pL:List uT)(n j:Nat)(u:uT):Obj.mapSeq (·.setIfInBounds j u) { cls:=.type "list",data:=.seq pL.toArray n }={ cls:=.type "list",data:=.seq (pL.set j u).toArray n }:=by
 simp[Obj.mapSeq]
theorem Inv.lst {pins:List (Addr×Obj)}{σ:St}{H:Hp}{s:uS}{p:Addr}{xs:List V}(I:Inv X pins σ H s)(h:H p=some (.lst xs)) :
  ∃ (pL:List uT) (n:Nat),ZX xs pL/\s.heap.get? p=some { cls:=.type "list",data:=.seq pL.toArray n }/\xs.length<=uR:=by
 obtain⟨z,pL,n,r,e⟩:=I.hok p _ h;exact⟨pL,n,r,e,z⟩
theorem Inv.lstUpd {p:Addr}{xs ys:List V}{its':List uT}{n':Nat}{f:Obj->Obj}(I:Inv X pins σ H s)(h:H p=some (.lst xs))
  (ho:s.heap.get? p=some { cls:=.type "list",data:=.seq pL.toArray n }) (hf:f { cls:=.type "list",data:=.seq pL.toArray n }={ cls:=.type "list",data:=.seq its'.toArray n' }) (r:ZX ys its') (hz:ys.length<=uR) (t:Nat) :
  Inv X pins σ (upd H p (.lst ys)) { s with heap:=s.heap.update p f,toks:=t }:=by
 have e:(s.heap.update p f).get? p=some { cls:=.type "list",data:=.seq its'.toArray n' }:=by
  rw[xW f ho (by rw[hf]<;>rfl),hf]
 refine I.write (x:=p) (e:=p) (by rw[h];trivial) (.inl rfl) (fun b u hb q=>(yj _ _ (uc hb)).trans q) ⟨_,e⟩ ?_;exact⟨hz,its',n',r,e⟩
def Ke:V->V->V->Hp->(Hp->Prop)->Prop:=fun o i v H Q=>∃ p xs k j,o=.ref p/\i=.int k/\H p=some (.lst xs)/\ixN xs.length k=some j/\Q (upd H p (.lst (xs.set j v)))
theorem EE:PSet X Ke:=by
 intro pins s σ H o i v ov iv u Q I ro ri rv h;obtain⟨p,xs,k,j,rfl,rfl,hp,hj,q⟩:=h;cases ro;obtain⟨t,rfl⟩:=ri;obtain⟨pL,n,r,ho,hz⟩:=I.lst hp;obtain⟨h1,h2,h3,h4⟩:=Lj hj;have hl:=r.length;have hn:=Vq;have I':Inv X pins σ (upd H p (.lst (xs.set j v))) { s with heap:=s.heap.update p (Obj.mapSeq (·.setIfInBounds j u)) }:=
  I.lstUpd hp ho (Iq pL n j u) (r.set rv j) (by rw[List.length_set];exact hz) s.toks
 by_cases h0:0<=k;have hk:k.toNat=j:=by
  rw[seqIndex_of h0 h4]at h1;exact uz.inj h1
 exact PySem.W.ki_setAt ho h0 (by omega) (by rw[yt,<-hl];exact h4) (by rw[hk];exact⟨_,I',q⟩);have hk:(k+(pL.toArray.size:Int)).toNat=j:=by
  rw[seqIndex_neg (by omega) h3]at h1;rw[yt,<-hl];exact uz.inj h1
 exact PySem.W.ki_setBack ho (by omega) (by rw[yt,<-hl];exact h3) (by omega) (by rw[hk];exact⟨_,I',q⟩)
theorem Ja (lo hi:Option Int)(n:Nat):(qJ lo hi none n).1=((HT.sIx n 0 lo:Nat):Int)/\(qJ lo hi none n).2.1=((HT.sIx n n hi:Nat):Int)/\(qJ lo hi none n).2.2=1:=by
 refine⟨?_,?_,Z⟩
 ·cases lo with
  | none=>simp[qJ,HT.sIx]
  | some i=>
   simp only[qJ,HT.sIx,Option.getD_none,show (1:Int)>0 by decide,qz];by_cases h:i<0;simp only[h,qz]<;>omega;simp only[h,q0]<;>omega
 ·cases hi with
  | none=>simp[qJ,HT.sIx]
  | some i=>
   simp only[qJ,HT.sIx,Option.getD_none,show (1:Int)>0 by decide,qz];by_cases h:i<0;simp only[h,qz]<;>omega;simp only[h,q0]<;>omega
theorem Ji (pL:List uT)(lo hi:Option Int):slicePick pL.toArray lo hi none=((pL.drop (HT.sIx pL.length 0 lo)).take (HT.sIx pL.length pL.length hi-HT.sIx pL.length 0 lo)).toArray:=by
 obtain⟨h1,h2,h3⟩:=Ja lo hi pL.toArray.size;unfold slicePick;rw[h1,h2,h3];simp only[sliceRange_one,pick_run,yt]<;>rfl
def rSlL (K:yS):V->Option Int->Option Int->Hp->VK->Prop:=fun x lo hi H Q=>∃ a xs,x=.ref a/\SqL K H a xs/\∀ p,H p=none->Q (.ref p) (upd H p (.lst (Wr xs lo hi)))
theorem Lq:SlR X (rSlL X.K):=by
 intro pins s σ H x v vl vu lo hi sl Q I rx hs pl pu h;obtain⟨a,xs,rfl,hx,q⟩:=h;cases rx;obtain⟨pL,r,ht,hz⟩:=I.list hx;have hlen:=r.length;refine⟨"list",_,slot_list_getitem.lookup,ht.isList.typeIs,?_⟩;refine wpAny_getItem_list_slice ht.isList hs pl pu .none (by simp) ?_ (by rw[yt]<;>omega);rw[Ji,<-hlen];refine⟨.ref s.heap.objs.size,_,I.laid (t':=s.toks) (o:=.lst (Wr xs lo hi)) (fun b ob q=>yQ _ q) (yO _) ?_,Z,q _ (I.hok.fresh (yO _))⟩;exact⟨xQ (IB xs lo hi) hz,_,0,(r.drop (HT.sIx xs.length 0 lo)).take (HT.sIx xs.length xs.length hi-HT.sIx xs.length 0 lo),yN _ Z⟩
noncomputable def WZ:V->Bool
 | .non=>true
 | .bl _=>true
 | .int _=>true
 | .str _=>true
 | _=>false
noncomputable def eqV:V->V->Bool
 | .non,.non=>true
 | .bl a,.bl b=>a==b
 | .bl a,.int b=>(if a then 1 else 0)==b
 | .int a,.bl b=>a==(if b then 1 else 0)
 | .int a,.int b=>a==b
 | .str a,.str b=>a==b
 | _,_=>false
theorem BK {x:V}{v:uT}(ry:ZS y u)(rx:ZS x v)(fy:WZ y=true)(fx:WZ x=true):rB A s u v (eqV y x):=by
 cases y with
 | non=>
  cases ry;cases x with
  | non=>cases rx;exact SeqAt.EqAt.same _
  | bl b=>cases rx;exact SeqAt.EqAt.none_bool b
  | int b=>obtain⟨t,rfl⟩:=rx;exact SeqAt.EqAt.none_int b t
  | str b=>obtain⟨t,rfl⟩:=rx;exact SeqAt.EqAt.none_str b t
  | _=>exact absurd (show false=true from fx) yC
 | bl a=>
  cases ry;cases x with
  | non=>cases rx;exact SeqAt.EqAt.bool_none a
  | bl b=>cases rx;exact SeqAt.EqAt.bool_bool a b
  | int b=>obtain⟨t,rfl⟩:=rx;exact SeqAt.EqAt.bool_int a b t
  | str b=>obtain⟨t,rfl⟩:=rx;exact SeqAt.EqAt.bool_str a b t
  | _=>exact absurd (show false=true from fx) yC
 | int a=>
  obtain⟨t',rfl⟩:=ry;cases x with
  | non=>cases rx;exact SeqAt.EqAt.int_none a t'
  | bl b=>cases rx;exact SeqAt.EqAt.int_bool a t' b
  | int b=>obtain⟨t,rfl⟩:=rx;exact qG a t' b t
  | str b=>obtain⟨t,rfl⟩:=rx;exact SeqAt.EqAt.int_str a t' b t
  | _=>exact absurd (show false=true from fx) yC
 | str a=>
  obtain⟨t',rfl⟩:=ry;cases x with
  | non=>cases rx;exact SeqAt.EqAt.str_none a t'
  | bl b=>cases rx;exact SeqAt.EqAt.str_bool a t' b
  | int b=>obtain⟨t,rfl⟩:=rx;exact SeqAt.EqAt.str_int a t' b t
  | str b=>obtain⟨t,rfl⟩:=rx;exact SeqAt.EqAt.str_str a t' b t
  | _=>exact absurd (show false=true from fx) yC
 | _=>exact absurd (show false=true from fy) yC
noncomputable def eqU (x:V)(u:uT):Bool:=match u with
 | .none=>eqV .non x
 | .bool b=>eqV (.bl b) x
 | .int i _=>eqV (.int i) x
 | .str z _=>eqV (.str z) x
 | _=>false
theorem Lf {x:V}(r:ZS y u)(f:WZ y=true):eqU x u=eqV y x:=by
 cases y with
 | non=>cases r;rfl
 | bl b=>cases r;rfl
 | int i=>obtain⟨t,rfl⟩:=r;rfl
 | str z=>obtain⟨t,rfl⟩:=r;rfl
 | _=>exact absurd (show false=true from f) yC
theorem PY {x:V}:∀ {xs:List V} {us:List uT},ZX xs us->xs.all WZ=true->us.any (eqU x)=xs.any fun y=>eqV y x
 | _,_,.nil,_=>rfl
 | y::xs,u::us,.cons r t,f=>by
  rw[vB,yy]at f;rw[vA,vA,Lf r f.1,PY t f.2]
theorem Qj {A:uq}{s:uS}{x:V}{v:uT}(rx:ZS x v)(fx:WZ x=true):∀ {xs:List V} {us:List uT},ZX xs us->xs.all WZ=true->∀ u∈us,rB A s u v (eqU x u)
 | _,_,.nil,_=>fun u hu=>by cases hu
 | y::xs,u::us,.cons r t,f=>fun u' hu=>by
  rw[vB,yy]at f;rcases yl.mp hu with rfl|hu;rw[Lf r f.1];exact BK r rx f.1 fx;exact Qj rx fx t f.2 u' hu
noncomputable def inV (x:V)(xs:List V):Bool:=xs.any fun y=>eqV y x
def rIn (K:yS)(neg:Bool):R2:=fun x y H Q=>∃ p xs,y=.ref p/\(SqL K H p xs\/SqT K H p xs)/\WZ x=true/\xs.all WZ=true/\Q (.bl (if neg then !inV x xs else inV x xs)) H
theorem Nx:OpR X (tV .In) (rIn X.K false):=by
 intro pins s σ H x y v u Q I rx ry h;obtain⟨p,xs,rfl,hq,fx,fs,q⟩:=h;cases ry;rcases hq with hq|hq;obtain⟨pL,r,pl,hz⟩:=I.list hq;refine SeqAt.in_listAt (eqU x) pl.isList (fun w hw=>Qj rx fx r fs w (by simpa using hw)) ⟨.bl _,H,I,rfl,?_⟩;rw[show pL.toArray.any (eqU x)=pL.any (eqU x) by simp,PY r fs];exact q;obtain⟨pL,r,pl,hz⟩:=I.tuple hq;refine SeqAt.in_tupleAt (eqU x) pl (fun w hw=>Qj rx fx r fs w (by simpa using hw)) ⟨.bl _,H,I,rfl,?_⟩;rw[show pL.toArray.any (eqU x)=pL.any (eqU x) by simp,PY r fs];exact q
theorem Zj:Y7 X (.builtin "len") (fun xs H Q=>∃ p ys,xs=[.ref p]/\(SqL X.K H p ys\/SqT X.K H p ys)/\Q (.int ys.length) H):=by
 intro pins s σ H xs us Q I r h;obtain⟨p,ys,rfl,hq,q⟩:=h;obtain⟨u,rfl,rx⟩:=YX r;cases rx;have hn:=Vq;rcases hq with hq|hq;obtain⟨pL,r',pl,hz⟩:=I.list hq;have hlen:=r'.length;exact Calls.call_len_list pl.isList (by simp only[yt]<;>omega) ⟨.int ys.length,H,I.tok _,⟨s.toks+1,by rw[yt,hlen]⟩,q⟩;obtain⟨pL,r',pl,hz⟩:=I.tuple hq;have hlen:=r'.length;exact len_tuple pl (by simp only[yt]<;>omega) ⟨.int ys.length,H,I.tok _,⟨s.toks+1,by rw[yt,hlen]⟩,q⟩
theorem Wq:Y7 X (.builtin "len") (fun xs H Q=>∃ z,xs=[.str z]/\z.length<=uR/\Q (.int z.length) H):=by
 intro pins s σ H xs us Q I r h;obtain⟨z,rfl,hz,q⟩:=h;obtain⟨u,rfl,t,rfl⟩:=YX r;have hn:=Vq;exact len_str (by omega) ⟨.int z.length,H,I.tok _,⟨_,rfl⟩,q⟩
theorem QV:Y7 X (.type "list") (fun xs H Q=>∃ p ys,xs=[.ref p]/\(SqL X.K H p ys\/SqT X.K H p ys)/\∀ l,H l=none->Q (.ref l) (upd H l (.lst ys))):=by
 intro pins s σ H xs us Q I r h;obtain⟨p,ys,rfl,hq,q⟩:=h;obtain⟨u,rfl,rx⟩:=YX r;cases rx;have fin:∀ (pL:List uT),ZX ys pL->ys.length<=uR->∀ (h':Heap) (c':Nat),(∀ b o',s.heap.get? b=some o'->h'.get? b=some o')->
   h'.get? s.heap.objs.size=some { cls:=.type "list",dict:=none,data:=.seq pL.toArray c',slots:=#[] }->EP X pins σ Q (.ref s.heap.objs.size) { s with heap:=h' }:=fun pL r' hz h' c' kp e=>
  ⟨.ref s.heap.objs.size,_,I.laid (t':=s.toks) kp (yO _) (show ZC X.prog X.w _ h' _ (.lst ys) from ⟨hz,pL,c',r',e⟩),rfl,q _ (I.hok.fresh (yO _))⟩
 rcases hq with hq|hq;obtain⟨pL,r',pl,hz⟩:=I.list hq;have hlen:=r'.length;obtain⟨o,ho,hc,n,hd⟩:=pl.isList;exact call_list_seq p (.inl rfl) ho hc hd (fun h' c' kp e=>fin pL r' hz h' c' kp e) (by simp only[yt]<;>omega);obtain⟨pL,r',pl,hz⟩:=I.tuple hq;have hlen:=r'.length;obtain⟨o,ho,hc,n,hd⟩:=pl;exact call_list_seq p (.inr rfl) ho hc hd (fun h' c' kp e=>fin pL r' hz h' c' kp e) (by simp only[yt]<;>omega)
theorem VM:Y7 X (.type "tuple") (fun xs H Q=>∃ p ys,xs=[.ref p]/\((SqL X.K H p ys/\∀ l,H l=none->Q (.ref l) (upd H l (.tup ys)))\/(SqT X.K H p ys/\Q (.ref p) H))):=by
 intro pins s σ H xs us Q I r h;obtain⟨p,ys,rfl,h⟩:=h;obtain⟨u,rfl,rx⟩:=YX r;cases rx;rcases h with ⟨hq,q⟩|⟨hq,q⟩;obtain⟨pL,r',pl,hz⟩:=I.list hq;have hlen:=r'.length;refine call_tuple_list pl.isList (fun h' kp=>?_) (by simp only[yt]<;>omega);have I1:Inv X pins σ H { s with heap:=h' }:=I.kept (t':=s.toks) kp;have I2:Inv X pins σ (upd H h'.objs.size (.tup ys)) { s with heap:=h'.push { cls:=.type "tuple",data:=.seq pL.toArray } }:=
  I1.laid (t':=s.toks) (fun b o e=>yQ _ e) (yO _) (show ZC X.prog X.w _ _ _ (.tup ys) from ⟨⟨hz,_,yN _ rfl,rfl⟩,pL,r',IsTup.new _ _⟩)
 exact⟨.ref h'.objs.size,_,I2,Z,q _ (I1.hok.fresh (yO _))⟩;obtain⟨pL,r',pl,hz⟩:=I.tuple hq;exact call_tuple_same pl ⟨.ref p,H,I,rfl,q⟩
def tyV (K:yS)(T:String)(x:V)(H:Hp):Prop:=match x with
 | .str _=>T="str"
 | .int _=>T="int"
 | .ref p=>(T="list"/\∃ xs,SqL K H p xs)\/(T="tuple"/\∃ o,K.lookup p=some o/\o.cls=.type "tuple"/\o.dict=none)\/
   (T="dict"/\((∃ kvs,H p=some (.dK kvs))\/∃ kvs,H p=some (.dT kvs)))\/(T="set"/\∃ S n,H p=some (.set S n))
 | _=>False
theorem KD {x:V}{v:uT}(I:Inv X pins σ H s)(r:ZS x v)(ty:tyV X.K T x H) :
  s.TypeIs v T/\∀ a,v=.ref a->∃ ob,s.heap.get? a=some ob/\ob.dict=none:=by
 cases x with
 | str z=>
  obtain⟨t,rfl⟩:=r;cases (show T="str" from ty);exact⟨qb s z t,fun _ e=>nomatch e⟩
 | int i=>
  obtain⟨t,rfl⟩:=r;cases (show T="int" from ty);exact⟨typeIs_int s i t,fun _ e=>nomatch e⟩
 | ref p=>
  cases r;rcases ty with ⟨rfl,xs,hq⟩|⟨rfl,o,hk,hc,hd⟩|⟨rfl,hk⟩|⟨rfl,S,n,hk⟩;obtain⟨pL,_,pl,_⟩:=I.list hq;refine⟨pl.isList.typeIs,fun a e=>?_⟩;cases e;obtain⟨o,n,e,c,hd,_⟩:=pl;exact⟨o,e,hd⟩;refine⟨⟨o,I.kIn p o hk,hc⟩,fun a e=>?_⟩;cases e;exact⟨o,I.kIn _ o hk,hd⟩;have z:∃ o,s.heap.get? p=some o/\o.ExactDict:=by
   rcases hk with ⟨kvs,hk⟩|⟨kvs,hk⟩;obtain⟨_,_,_,_,o,_,_,e,ex,_⟩:=I.hok p _ hk;exact⟨o,e,ex⟩;obtain⟨_,_,_,_,o,_,_,e,ex,_⟩:=I.hok p _ hk;exact⟨o,e,ex⟩
  obtain⟨o,e,ex⟩:=z;refine⟨⟨o,e,ex.1⟩,fun a e2=>?_⟩;cases e2;exact⟨o,e,ex.2.1⟩;obtain⟨o,_,_,_,e,ex,_⟩:=I.hok p _ hk;refine⟨⟨o,e,ex.1⟩,fun a e2=>?_⟩;cases e2;exact⟨o,e,ex.2.1⟩
 | _=>exact uj ty
def tBM0 (K:yS)(T:String)(r:V->List V->Hp->VK->Prop)(to:TE):TE:=fun σ H Q=>to σ H fun x H1=>tyV K T x H1/\r x [] H1 Q
def tBM (K:yS)(T:String)(r:V->List V->Hp->VK->Prop)(to:TE)(t:TA):TE:=fun σ H Q=>to σ H fun x H1=>tyV K T x H1/\t σ H1 fun xs H2=>r x xs H2 Q
variable {o:Expr}{es:List Expr}{to:TE}{t:TA}{name:Str}{apos pB:Pos}{id:String}{r:V->List V->Hp->VK->Prop}
theorem Kw (pa:PlainAttrs T)(slot:Slot T name id)(cG:typeOf (.builtin id)=pure (.type "method_descriptor"))(hm:MtR X id r)(ho:PE X o to)
  (jV:qM o name X.env (eval o X.env)=eval o X.env:=by rfl) (nI:(apos.endLine==pB.line)=true:=by rfl):PE X (.Call (.Attribute o name apos) [] [] pB) (tBM0 X.K T r to):=by
 intro pins s σ H Q I h;refine wpAny_Call_method0_late jV nI (thn (ho pins s σ H _ I h) fun v s1 ⟨x,H1,I1,r1,ty,q1⟩=>?_);obtain⟨h1,h2⟩:=KD I1 r1 ty;exact⟨T,id,pa,slot,cG,h1,h2,Calls.callWith_builtin Z (PySem.evalArgs_none (hm pins s1 σ H1 x [] v [] Q I1 r1 .nil q1))⟩
theorem Yz (pa:PlainAttrs T)(slot:Slot T name id)(cG:typeOf (.builtin id)=pure (.type "method_descriptor"))(hm:MtR X id r)(ho:PE X o to)(ha:PA X (e::es) t)
  (jV:qM o name X.env (eval o X.env)=eval o X.env:=by rfl)
  (hfew:((sL pB (uB (e::es) X.env)).all (fun x=>!x.1)&&(backToKw pB (pT [] X.env)).all (fun x=>x.1.isSome)
   && decide ((e::es).length+([]:List Keyword).length+(if ([]:List Keyword).isEmpty then 0 else 1)<30))=true:=by rfl)
  (nI:(apos.endLine==pB.line)=true:=by rfl) (hs:uB (e::es) X.env=(false,eval e X.env)::uB es X.env:=by rfl) (gC:(sL pB (uB es X.env)).any (·.1)=false:=by rfl) :
  PE X (.Call (.Attribute o name apos) (e::es) [] pB) (tBM X.K T r to t):=by
 intro pins s σ H Q I h;refine wpAny_Call_method_late jV hfew nI rfl (thn (ho pins s σ H _ I h) fun v s1 ⟨x,H1,I1,r1,ty,q1⟩=>?_);obtain⟨h1,h2⟩:=KD I1 r1 ty;refine⟨T,id,pa,slot,cG,h1,h2,?_⟩;have hA:=ha pB pins s1 σ H1 _ I1 q1;rw[hs]at hA ⊢;refine Calls.callWith_builtin (by show (false||(sL pB (uB es X.env)).any (·.1))=false;rw[gC]<;>rfl) (Calls.evalArgs_plain ?_);exact thn hA fun us s2 ⟨vs,H2,I2,r2,q2⟩=>hm pins s2 σ H2 x vs v us Q I2 r1 r2 q2
end
def MtM (X:Cx)(id:String)(r:V->List V->Hp->VK->Prop):Prop:=
 ∀ (pins:List (Addr×Obj)) (s:uS) (σ:St) (H:Hp) (x:V) (xs:List V) (v:uT) (us:List uT) (Q:VK),Inv X pins σ H s->ZS x v->ZX xs us->r x xs H Q->
  uP (uM X.prog X.w) X.A (call (.builtin id) (v::us)) (EP X pins σ Q) X.xe s
theorem ZX.one:∀ {x:V} {us:List uT},ZX [x] us->∃ u,us=[u]/\ZS x u
 | _,_,.cons r .nil=>⟨_,rfl,r⟩
theorem ZX.zero:∀ {us:List uT},ZX [] us->us=[]
 | _,.nil=>rfl
theorem ZX.dropLast {xs:List V}{us:List uT}(h:ZX xs us):ZX xs.dropLast us.dropLast:=by
 induction h with
 | nil=>exact .nil
 | cons r t ih=>
  cases t with
  | nil=>exact .nil
  | cons q t'=>exact .cons r ih
theorem Il (l:List α):l.eraseIdx (l.length-1)=l.dropLast:=by
 induction l with
 | nil=>rfl
 | cons a r ih=>
  cases r with
  | nil=>rfl
  | cons b r=>
   have e:(a::b::r).length-1=((b::r).length-1)+1:=by
    have h1:(a::b::r).length=r.length+2:=rfl;have h2:(b::r).length=r.length+1:=rfl;omega
   rw[e,List.eraseIdx_cons_succ,ih]
   all_goals rfl
variable{t':Nat}
section
variable {X:Cx}{l b:Addr}{xs ys zs:List V}
theorem Inv.lset {its':List uT}{f:Array uT->Array uT}(I:Inv X pins σ H s)(hH:H l=some (.lst xs))
  (e:s.heap.get? l=some { cls:=.type "list",data:=.seq pL.toArray n }) (hf:f pL.toArray=its'.toArray) (hv:ZX ys its') (hz:ys.length<=uR) :
  Inv X pins σ (upd H l (.lst ys)) { s with heap:=s.heap.update l (Obj.mapSeq f),toks:=t' }:=by
 have q:=PySem.IsL.update e f;rw[hf]at q;refine I.write (x:=l) (e:=l) (by rw[hH];exact trivial) (.inl rfl) (fun b' u hb hu=>(yj s.heap (Obj.mapSeq f) (uc hb)).trans hu) ⟨_,q⟩ ?_;exact⟨hz,its',_,hv,q⟩
theorem Inv.lnew (I:Inv X pins σ H s)(hv:ZX ys pL)(hz:ys.length<=uR) :
  Inv X pins σ (upd H s.heap.objs.size (.lst ys)) { s with heap:=s.heap.push { cls:=.type "list",data:=.seq pL.toArray },toks:=t' }:=
 I.laid (fun _ _ q=>yQ _ q) (yO _) ⟨hz,pL,0,hv,yN _ rfl⟩
theorem Inv.fresh (I:Inv X pins σ H s):H s.heap.objs.size=none:=I.hok.fresh (yO _)
theorem Inv.lstM (I:Inv X pins σ H s)(hH:H l=some (.lst xs)):xs.length<=uR/\∃ (pL:List uT) (n:Nat),ZX xs pL/\xs.length=pL.length/\s.heap.get? l=some { cls:=.type "list",data:=.seq pL.toArray n }:=by
 obtain⟨z,pL,n,r,e⟩:=I.hok l _ hH;exact⟨z,pL,n,r,r.length,e⟩
end
section
variable {X:Cx}
def C3:V->List V->Hp->VK->Prop:=fun x vs H Q=>∃ l xs y,x=.ref l/\vs=[y]/\H l=some (.lst xs)/\xs.length<uR/\Q .non (upd H l (.lst (xs++[y])))
theorem Xn:MtM X "list.append" C3:=by
 intro pins s σ H x vs v us Q I rx rv h;obtain⟨l,xs,y,rfl,rfl,hH,hz,q⟩:=h;cases rx;obtain⟨u,rfl,ru⟩:=rv.one;obtain⟨z,pL,n,r,hl,e⟩:=I.lstM hH;refine qa F.slot_list_append ⟨_,e,rfl⟩ F.entry_list_append (F.args_list_append_2 _ _) (PySem.list_append l pL.toArray n u (by rw[yt];omega)) ⟨e,?_⟩;refine⟨.non,_,I.lset (its':=pL++[u]) hH e (by simp) (r.append (.cons ru .nil)) ?_,Z,q⟩;rw[yJ,xt];omega
def rPop:V->List V->Hp->VK->Prop:=fun x vs H Q=>∃ l xs y,x=.ref l/\vs=[]/\H l=some (.lst xs)/\xs[xs.length-1]?=some y/\Q y (upd H l (.lst xs.dropLast))
theorem Kz:MtM X "list.pop" rPop:=by
 intro pins s σ H x vs v us Q I rx rv h;obtain⟨l,xs,y,rfl,rfl,hH,hy,q⟩:=h;cases rx;have hus:=rv.zero;subst hus;obtain⟨z,pL,n,r,hl,e⟩:=I.lstM hH;obtain⟨u,hu,ru⟩:=r.get hy;have mI:pL.toArray[pL.toArray.size-1]?=some u:=by
  show pL.toArray[pL.length-1]?=some u;rw[<-vN,<-hl];exact hu
 refine qa F.slot_list_pop ⟨_,e,rfl⟩ F.entry_list_pop (F.args_list_pop_1 _) (MeetsSeq.list_pop_last l pL.toArray n u mI (by rw[yt];omega)) ⟨e,?_⟩;refine⟨y,_,I.lset (its':=pL.dropLast) hH e ?_ r.dropLast ?_,ru,q⟩
 ·show pL.toArray.eraseIdxIfInBounds (pL.toArray.size-1)=pL.dropLast.toArray;rw[yt,List.eraseIdxIfInBounds_toArray,Il]
 rw[vC];omega
def Rb:R2:=fun x y H Q=>∃ l b xs zs,x=.ref l/\y=.ref b/\H l=some (.lst xs)/\H b=some (.lst zs)/\xs.length+zs.length<=uR/\∀ p,H p=none->Q (.ref p) (upd H p (.lst (xs++zs)))
theorem Zg:OpR X (rh .Add) Rb:=by
 intro pins s σ H x y v u Q I rx ry h;obtain⟨l,b,xs,zs,rfl,rfl,hH,hB,hz,q⟩:=h;cases rx;cases ry;obtain⟨z,pL,n,r,hl,e⟩:=I.lstM hH;obtain⟨z2,its2,n2,r2,nu,e2⟩:=I.lstM hB;refine PySem.P.add_list e e2 ?_ (by rw[yt,yt];omega);have ea:pL.toArray++its2.toArray=(pL++its2).toArray:=by simp
 rw[ea];exact⟨.ref _,_,I.lnew (t':=s.toks) (r.append r2) (by rw[yJ];omega),Z,q _ I.fresh⟩
end
variable{o:Option V}
section
variable {κ:Type}[DecidableEq κ]
noncomputable def Zu (kvs:List (κ×V))(k:κ):Option V:=(kvs.find? fun kv=>decide (kv.1=k)).map (·.2)
noncomputable def Zh (kvs:List (κ×V))(k:κ)(v:V):List (κ×V):=
 if (kvs.any fun kv=>decide (kv.1=k))=true then kvs.map (fun kv=>if kv.1=k then (kv.1,v) else kv) else kvs++[(k,v)]
theorem Yt {p:κ×V}{r:List (κ×V)}{k:κ}(e:p.1=k):Zu (p::r) k=some p.2:=by simp[Zu,xi,e]
theorem YZ {p:κ×V}{r:List (κ×V)}{k:κ}(e:¬ p.1=k):Zu (p::r) k=Zu r k:=by simp[Zu,xi,e]
theorem VD (k:κ):∀ kvs:List (κ×V),(kvs.any fun kv=>decide (kv.1=k))=(Zu kvs k).isSome
 | []=>rfl
 | p::r=>by
  rw[vA];by_cases e:p.1=k;simp only[Yt e,uO e,Bool.true_or,Option.isSome_some];rw[YZ e,uJ e,Bool.false_or];exact VD k r
theorem Mv (k j:κ)(y:V):∀ kvs:List (κ×V),Zu (kvs.map fun kv=>if kv.1=k then (kv.1,y) else kv) j=(Zu kvs j).map fun x=>if j=k then y else x
 | []=>rfl
 | p::r=>by
  have ih:=Mv k j y r;rw[ye];by_cases h:p.1=k;rw[uK h];by_cases e:p.1=j;rw[Yt (p:=(p.1,y)) e,Yt e,pZ,uK (e.symm.trans h)];rw[YZ (p:=(p.1,y)) e,YZ e,ih];rw[uL h];by_cases e:p.1=j;rw[Yt (p:=p) e,Yt e,pZ,uL (fun z=>h (e.trans z))];rw[YZ (p:=p) e,YZ e,ih]
theorem NT (k j:κ)(y:V):∀ kvs:List (κ×V),Zu kvs k=none->Zu (kvs++[(k,y)]) j=if j=k then some y else Zu kvs j
 | [],_=>by
  by_cases e:k=j;rw[uK e.symm];exact Yt (p:=(k,y)) e;rw[uL (fun z=>e z.symm)];exact YZ (p:=(k,y)) e
 | p::r,hn=>by
  rw[xf];have hk:¬ p.1=k:=fun z=>by rw[Yt z]at hn;cases hn
  rw[YZ hk]at hn;have ih:=NT k j y r hn;by_cases e:p.1=j;rw[Yt e,Yt e,uL (fun z=>hk (e.trans z))];rw[YZ e,YZ e,ih]
theorem E4 (kvs:List (κ×V))(k j:κ)(y:V):Zu (Zh kvs k y) j=if j=k then some y else Zu kvs j:=by
 unfold Zh;by_cases a:(kvs.any fun kv=>decide (kv.1=k))=true
 ·rw[uK a,Mv];rw[VD]at a;by_cases e:j=k;obtain⟨x,hx⟩:=sE.mp a;rw[uK e,e,hx,pZ,uK rfl]
  ·rw[uL e];cases Zu kvs j with
   | none=>rfl
   | some x=>rw[pZ,uL e]
 ·rw[uL a];refine NT k j y kvs ?_;rw[VD]at a;cases q:Zu kvs k with
  | none=>rfl
  | some x=>rw[q]at a;exact (a rfl).elim
theorem QS (kvs:List (κ×V))(k:κ)(v:V):(Zh kvs k v).length<=kvs.length+1:=by
 unfold Zh;split;rw[yK];omega;rw[yJ,yi,wR];omega
theorem XE {kvs:List (κ×V)}{k:κ}(v:V)(h:Zu kvs k=none):Zh kvs k v=kvs++[(k,v)]:=by
 unfold Zh;rw[VD,h];exact uL (by decide)
theorem YO.isSome_eq {u:Option uT}(r:YO o u):o.isSome=u.isSome:=by
 cases o with
 | none=>cases u with
  | none=>rfl
  | some _=>exact (show False from r).elim
 | some _=>cases u with
  | none=>exact (show False from r).elim
  | some _=>rfl
theorem KV.val {kvs:List (κ×V)}{vs:List (κ×uT)}(r:KV kvs vs)(k:κ):YO (Zu kvs k) (tK vs k):=by
 unfold KV at r
 induction r with
 | nil=>exact tH
 | @cons p q ps qs h t ih=>
  obtain⟨h1,h2⟩:=h;by_cases e:p.1=k;have e':q.1=k:=h1.symm.trans e;have b:tK (q::qs) k=some q.2:=by simp[tK,xi,e']
  rw[Yt e,b];exact h2;have e':¬ q.1=k:=fun z=>e (h1.trans z);have b:tK (q::qs) k=tK qs k:=by simp[tK,xi,e']
  rw[YZ e,b];exact ih
theorem KV.any {kvs:List (κ×V)}{vs:List (κ×uT)}(r:KV kvs vs)(k:κ):(kvs.any fun kv=>decide (kv.1=k))=vs.any fun kv=>decide (kv.1=k):=by
 unfold KV at r
 induction r with
 | nil=>rfl
 | cons h t ih=>rw[vA,vA,ih,h.1]
theorem KV.repl {kvs:List (κ×V)}{vs:List (κ×uT)}(r:KV kvs vs)(k:κ)(ry:ZS y u) :
  KV (kvs.map fun kv=>if kv.1=k then (kv.1,y) else kv) (vs.map fun kv=>if kv.1=k then (kv.1,u) else kv):=by
 unfold KV at r ⊢
 induction r with
 | nil=>exact .nil
 | @cons p q ps qs h t ih=>
  rw[ye,ye];refine .cons ?_ ih;obtain⟨h1,h2⟩:=h;by_cases e:p.1=k;rw[uK e,uK (h1.symm.trans e)];exact⟨h1,ry⟩;rw[uL e,uL (fun z=>e (h1.trans z))];exact⟨h1,h2⟩
theorem KV.put {kvs:List (κ×V)}{vs:List (κ×uT)}(r:KV kvs vs)(k:κ)(ry:ZS y u):KV (Zh kvs k y) (stored vs k u):=by
 unfold Zh stored;rw[r.any k];by_cases e:(vs.any fun kv=>decide (kv.1=k))=true;rw[uK e,uK e];exact r.repl k ry;rw[uL e,uL e];exact Paired.snoc r ⟨rfl,ry⟩
theorem KV.keys {kvs:List (κ×V)}{vs:List (κ×uT)}(r:KV kvs vs):kvs.map (·.1)=vs.map (·.1):=by
 unfold KV at r
 induction r with
 | nil=>rfl
 | cons h t ih=>rw[ye,ye,ih,h.1]
theorem KV.length {kvs:List (κ×V)}{vs:List (κ×uT)}(r:KV kvs vs):kvs.length=vs.length:=Paired.length r
end
variable{P:uE}{w:uw}
theorem Wa {k:Key}(r:ZS (kV k) u):(Zt P w).is k u=true:=by
 cases k with
 | inl i=>obtain⟨t,e⟩:=(show ∃ t,u=qV i t from r);subst e;exact Oa P w i t
 | inr x=>obtain⟨t,e⟩:=(show ∃ t,u=pP x t from r);subst e;exact Od P w x t
theorem NO {P:uE}{w:uw}:∀ {ks:List Key} {us:List uT},ZX (ks.map kV) us->ItemsAre (Zt P w) ks us
 | [],_,r=>by rw[List.map_nil]at r;cases r;exact .nil
 | k::ks,_,r=>by
  rw[ye]at r;cases r with
  | cons h t=>exact .cons (Wa h) (NO t)
abbrev KT (H:Hp):List (List Key×V)->List (List Key×Addr×uT)->Prop:=Paired fun p q=>p.1=q.1/\H q.2.1=some (.tup (p.1.map kV))/\ZS p.2 q.2.2
variable{kvs:List (List Key×V)}{xs:List (List Key×Addr×uT)}
theorem KT.val (r:KT H kvs xs)(k:List Key):YO (Zu kvs k) ((qT xs k).map (·.2)):=by
 induction r with
 | nil=>exact tH
 | @cons p q ps qs h t ih=>
  obtain⟨h1,_,h2⟩:=h;by_cases e:p.1=k;have e':q.1=k:=h1.symm.trans e;have b:qT (q::qs) k=some q.2:=by simp[qT,xi,e']
  rw[Yt e,b];exact h2;have e':¬ q.1=k:=fun z=>e (h1.trans z);have b:qT (q::qs) k=qT qs k:=by simp[qT,xi,e']
  rw[YZ e,b];exact ih
theorem KT.repl (r:KT H kvs xs)(k:List Key)(ry:ZS y u) :
  KT H (kvs.map fun kv=>if kv.1=k then (kv.1,y) else kv) (xs.map (putAt k u)):=by
 induction r with
 | nil=>exact .nil
 | @cons p q ps qs h t ih=>
  rw[ye,ye];refine .cons ?_ ih;obtain⟨h1,h2,h3⟩:=h;unfold putAt;by_cases e:p.1=k;rw[uK e,uK (h1.symm.trans e)];exact⟨h1,h2,ry⟩;rw[uL e,uL (fun z=>e (h1.trans z))];exact⟨h1,h2,h3⟩
theorem KT.put (r:KT H kvs xs)(k:List Key){b:Addr}(hb:H b=some (.tup (k.map kV)))(ry:ZS y u) :
  KT H (Zh kvs k y) (storedH xs k b u):=by
 have e:(kvs.any fun kv=>decide (kv.1=k))=(qT xs k).isSome:=by
  rw[VD,(r.val k).isSome_eq,Option.isSome_map]
 unfold Zh storedH;rw[e];by_cases q:(qT xs k).isSome=true;rw[uK q,uK q];exact r.repl k ry;rw[uL q,uL q];exact Paired.snoc r ⟨rfl,hb,ry⟩
variable{H':Hp}
theorem KT.keeps (r:KT H kvs xs)(ht:∀ b ys,H b=some (.tup ys)->H' b=some (.tup ys)):KT H' kvs xs:=
 Paired.mapP r fun _ _ z=>⟨z.1,ht _ _ z.2.1,z.2.2⟩
section
variable {h:Heap}{a:Addr}
theorem JE {u:HO}(ok:HOk P w H h)(e:Rd H a u):ZC P w H h a u:=e.ok ok
theorem TR {kvs:List (Key×V)}(ok:HOk P w H h)(e:Rd H a (.dK kvs)):kvs.length<=uR/\(a==tI)=false/\∃ vs,KV kvs vs/\h.DictOf (Zt P w) a vs:=
 show ZC P w H h a (.dK kvs) from JE ok e
theorem Ro {kvs:List (Key×V)}(ok:HOk P w H h)(e:H a=some (.dK kvs)):kvs.length<=uR/\(a==tI)=false/\∃ vs,KV kvs vs/\h.DictOf (Zt P w) a vs:=TR ok (.inl e)
theorem Vo {ks:List Key}(ok:HOk P w H h)(e:H a=some (.tup (ks.map kV))):(tupleKind (Zt P w)).is h ks a:=by
 obtain⟨_,pL,r,o,h1,h2,n,h3⟩:=(show ZC P w H h a (.tup (ks.map kV)) from ok a _ e);exact⟨o,pL.toArray,n,h1,h2,h3,by simpa using NO r⟩
theorem Rj (ok:HOk P w H h)(e:Rd H a (.dT kvs)):kvs.length<=uR/\(a==tI)=false/\
  ∃ xs,KT H kvs xs/\h.DictOfH (tupleKind (Zt P w)) a xs:=by
 obtain⟨z,y,xs,r,o,es,ep,h1,h2,h3,h4,h5⟩:=(show ZC P w H h a (.dT kvs) from JE ok e);refine⟨z,y,xs,r,o,es,ep,h1,h2,h3,h4,fun x hx=>?_,h5⟩;have all:∀ {l:List (List Key×V)} {m:List (List Key×Addr×uT)},KT H l m->∀ x∈m,(tupleKind (Zt P w)).is h x.1 x.2.1:=by
  intro l m q
  induction q with
  | nil=>intro x hx;exact nomatch hx
  | @cons p q ps qs hq t ih=>
   intro x hx;rcases yl.mp hx with e|hx;subst e;exact Vo ok (by rw[<-hq.1];exact hq.2.1);exact ih x hx
 exact all r x hx
theorem Al (ok:HOk P w H h)(e:H a=some (.dT kvs)):kvs.length<=uR/\(a==tI)=false/\
  ∃ xs,KT H kvs xs/\h.DictOfH (tupleKind (Zt P w)) a xs:=Rj ok (.inl e)
end
def XQ (H:Hp)(a:Addr)(y:V)(r:Option V):Prop:=
 (∃ kvs k,Rd H a (.dK kvs)/\y=kV k/\r=Zu kvs k)\/∃ kvs k b,Rd H a (.dT kvs)/\y=.ref b/\H b=some (.tup (k.map kV))/\r=Zu kvs k
def Wu (H:Hp)(a:Addr)(y v:V)(H':Hp):Prop:=
 (∃ kvs k,H a=some (.dK kvs)/\y=kV k/\kvs.length<uR/\H'=upd H a (.dK (Zh kvs k v)))\/
 ∃ kvs k b,H a=some (.dT kvs)/\y=.ref b/\H b=some (.tup (k.map kV))/\kvs.length<uR/\H'=upd H a (.dT (Zh kvs k v))
theorem XQ.k {H:Hp}{a:Addr}{kvs:List (Key×V)}{k:Key}(e:H a=some (.dK kvs)):XQ H a (kV k) (Zu kvs k):=.inl ⟨kvs,k,.inl e,rfl,rfl⟩
theorem Wu.k {H:Hp}{a:Addr}{kvs:List (Key×V)}{k:Key}{v:V}(e:H a=some (.dK kvs))(hl:kvs.length<uR):Wu H a (kV k) v (upd H a (.dK (Zh kvs k v))):=.inl ⟨kvs,k,e,rfl,hl,rfl⟩
variable{Q:uT->uS->Prop}{h':Heap}
section
variable {X:Cx}{a:Addr}{v:V}{r:uT}{E:uT->uS->Prop}
theorem Inv.big (I:Inv X pins σ H s):tI<s.heap.objs.size:=by
 have h:uG<s.heap.objs.size:=(I.mod.glob.keeps I.bk).lt;exact vg (by decide) h
theorem Hn (hu:A.units+1<tO)(I:Inv X pins σ H s)(g:XQ H a y (some v))(ry:ZS y u)(h:∀ w' s',Inv X pins σ H s'->ZS v w'->Q w' s') :
  uP (uM X.prog X.w) A (getItem (.ref a) u) Q E s:=by
 rcases g with ⟨kvs,k,e,ey,l⟩|⟨kvs,k,b,e,ey,eb,l⟩;subst ey;obtain⟨z,hd,vs,rel,dd⟩:=TR I.hok e;obtain⟨w',hw,pH⟩:=YO.some_of (v:=v) (o:=tK vs k) (by rw[l];exact rel.val k);exact wpAny_getItem_of (Wa ry) dd.mapOf hw (h w' _ (I.tok _) pH);subst ey;cases (show u=uI b from ry);obtain⟨z,hd,xs,rel,dd⟩:=Rj I.hok e;obtain⟨w',hw,pH⟩:=YO.some_of (v:=v) (o:=(qT xs k).map (·.2)) (by rw[l];exact rel.val k);obtain⟨p,hp,jt⟩:=sJ.mp hw;refine wpAny_getItem_heap (tupleKind_room_in1 hu) (Vo I.hok eb) dd hp ?_;rw[jt];exact h w' _ (I.tok _) pH
theorem D9 (hu:A.units+1<tO)(I:Inv X pins σ H s)(g:XQ H a y o)(ry:ZS y u)(h:∀ s',Inv X pins σ H s'->Q (.bool (!o.isSome)) s') :
  uP (uM X.prog X.w) A (tV .NotIn u (.ref a)) Q E s:=by
 rcases g with ⟨kvs,k,e,ey,l⟩|⟨kvs,k,b,e,ey,eb,l⟩;subst ey;obtain⟨z,hd,vs,rel,dd⟩:=TR I.hok e;refine wpAny_notIn_of (Wa ry) hd dd.mapOf ?_;rw[<-(rel.val k).isSome_eq,<-l];exact h _ (I.tok _);subst ey;cases (show u=uI b from ry);obtain⟨z,hd,xs,rel,dd⟩:=Rj I.hok e;refine wpAny_notIn_heap (tupleKind_room_in1 hu) (Vo I.hok eb) hd dd ?_;have q:=(rel.val k).isSome_eq;rw[Option.isSome_map]at q;rw[<-q,<-l];exact h _ (I.tok _)
theorem Se {ob:HO}(I:Inv X pins σ H s)(mu:Mut (H a))(hs:xb a s.heap h')(he:∃ q,h'.get? a=some q)(new:ZC X.prog X.w (upd H a ob) h' a ob) :
  Inv X pins σ (upd H a ob) { s with heap:=h',toks:=t' }:=
 I.write (x:=a) (e:=a) mu (.inl rfl) (fun b q hb z=>(hs.2 b hb).trans z) he new
theorem KA {kvs:List (Key×V)}{vs:List (Key×uT)}(z:kvs.length<=uR)(hd:(a==tI)=false)(rel:KV kvs vs)(dd:h'.DictOf (Zt P w) a vs) :
  ZC P w H' h' a (.dK kvs):=⟨z,hd,vs,rel,dd⟩
theorem GX {Q:Unit->uS->Prop}(hu:A.units+1<tO)(I:Inv X pins σ H s)(g:Wu H a y v H')(ry:ZS y u)(rv:ZS v r)(h:∀ s',Inv X pins σ H' s'->Q () s') :
  uP (uM X.prog X.w) A (setItem (.ref a) u r) Q E s:=by
 rcases g with ⟨kvs,k,e,ey,l,eH⟩|⟨kvs,k,b,e,ey,eb,l,eH⟩;subst ey eH;obtain⟨z,hd,vs,rel,dd⟩:=Ro I.hok e;have hz:vs.length<=uR:=by rw[<-rel.length];exact z
 have hl:(Zh kvs k v).length<=uR:=by have:=QS kvs k v;omega
 refine wpAny_setItem_pairs (hsz:=hz) (Wa ry) dd fun h' nY hs=>h _ ?_;have he:∃ q,h'.get? a=some q:=let ⟨q,_,_,hq,_⟩:=nY;⟨q,hq⟩
 exact Se I (by rw[e];exact tH) hs he (KA hl hd (rel.put k rv) nY);subst ey eH;cases (show u=uI b from ry);obtain⟨z,hd,xs,rel,dd⟩:=Al I.hok e;have hz:xs.length<=uR:=by rw[<-Paired.length rel];exact z
 have hl:(Zh kvs k v).length<=uR:=by have:=QS kvs k v;omega
 refine wpAny_setItem_heap (hsz:=hz) (tupleKind_room_in1 hu) (Vo I.hok eb) dd fun h' nY hs=>h _ ?_;obtain⟨q,es,ep,hq,h2,h3,h4,_,h5⟩:=nY;refine Se I (by rw[e];exact tH) hs ⟨q,hq⟩ ⟨hl,hd,_,(rel.put k eb rv).keeps fun c ys ec=>?_,q,es,ep,hq,h2,h3,h4,h5⟩;rw[Z5 (TQ ec e (fun z=>nomatch z))];exact ec
end
section
variable {X:Cx}{a:Addr}{kvs:List (Key×V)}{k:Key}{E:uT->uS->Prop}
theorem As (I:Inv X pins σ H s)(e:Rd H a (.dK kvs))(h:∀ t s',Inv X pins σ H s'->Q (.int kvs.length t) s'):uP (uM X.prog X.w) A (call (.builtin "len") [.ref a]) Q E s:=by
 obtain⟨z,hd,vs,rel,dd⟩:=TR I.hok e;refine call_len_dict hd dd (by rw[<-rel.length];rw[rg]at z;omega) ?_;rw[<-rel.length];exact h _ _ (I.tok _)
end
def OE (i:Expr):Prop:=∀ ov iv,subscripted i false ov iv=operate [ov,iv] (getItem ov iv)
variable{prog:uE}{E:uT->uS->Prop}{pos:Pos}
theorem Ml {env:Env}{value slice:Expr}{id:String}
  (hl:typeLookup (.type T) "__getitem__"=pure (some (.builtin id))) (hs:OE slice)
  (h:uP (uM prog w) A (eval value env) (fun o s₁=>uP (uM prog w) A (eval slice env) (fun i s₂=>s₂.TypeIs o T/\uP (uM prog w) A (getItem o i) Q E s₂) E s₁) E s) :
  uP (uM prog w) A (eval (.Subscript value slice pos) env) Q E s:=by
 refine Subscript_ (uA h (fun o s₁ h₁=>uA h₁ (fun i s₂ h₂=>?_) fun _ _ x=>x) fun _ _ x=>x);obtain⟨hT,h₂⟩:=h₂;unfold subscriptTail;refine uV ?_;rw[getitemInPython_of_ne hT.not_modules];refine uV (qH hT hl ?_);have fin:uP (uM prog w) A (subscripted slice false o i) (fun r s₃=>uP (uM prog w) A (letTemporaryGo value o r >>= fun _=>pure r) Q E s₃) E s₂:=by
  rw[hs o i];exact wpAny_operating (uA h₂ (fun r s₃ h₃=>uV (wpAny_letTemporaryGo (uQ h₃))) fun _ _ x=>x)
 first
  | exact uQ (uV fin)
  | exact uV (uQ (uV fin))
  | exact uV fin
variable{X:Cx}{a:Addr}
theorem IG (I:Inv X pins σ H s)(g:XQ H a y o):s.TypeIs (.ref a) "dict":=by
 rcases g with ⟨kvs,k,e,_,_⟩|⟨kvs,k,b,e,_,_,_⟩;obtain⟨_,_,vs,_,dd⟩:=TR I.hok e;exact dd.typeIs;obtain⟨_,_,xs,_,dd⟩:=Rj I.hok e;exact dd.typeIs
def J1 (td ty:TE):TE:=fun σ H Q=>td σ H fun x H1=>ty σ H1 fun y H2=>∃ a v,x=.ref a/\XQ H2 a y (some v)/\Q v H2
def Ds (ty td:TE):TE:=fun σ H Q=>ty σ H fun y H1=>td σ H1 fun x H2=>∃ a o,x=.ref a/\XQ H2 a y o/\Q (.bl (!o.isSome)) H2
def zD (td ty tv:TE):TS:=fun D σ H=>tv σ H fun v H1=>td σ H1 fun x H2=>ty σ H2 fun y H3=>∃ a H4,x=.ref a/\Wu H3 a y v H4/\D.nx σ H4
section
variable {o i value:Expr}{pos' nX:Pos}{td ty tv:TE}
theorem Mp (hu:X.A.units+1<tO)(ho:PE X o td)(hi:PE X i ty)(hs:OE i):PE X (.Subscript o i pos) (J1 td ty):=by
 intro pins s σ H Q I h;refine Ml PySem.F.slot_dict_getitem.lookup hs (thn (ho pins s σ H _ I h) fun u s1 ⟨x,H1,I1,rx,q1⟩=>thn (hi pins s1 σ H1 _ I1 q1) fun iv s2 ⟨y,H2,I2,ry,a,v,ex,g,q2⟩=>?_);subst ex;obtain rfl:u=uI a:=rx;exact⟨IG I2 g,Hn hu I2 g ry fun w' s3 I3 pH=>⟨v,H2,I3,pH,q2⟩⟩
theorem QJ (hu:X.A.units+1<tO)(hi:PE X i ty)(ho:PE X o td):PC X .NotIn i o (Ds ty td):=by
 intro pins s σ H Q I h;refine thn (hi pins s σ H _ I h) fun iv s1 ⟨y,H1,I1,ry,q1⟩=>thn (ho pins s1 σ H1 _ I1 q1) fun u s2 ⟨x,H2,I2,rx,a,ov,ex,g,q2⟩=>?_;subst ex;obtain rfl:u=uI a:=rx;exact D9 hu I2 g ry fun s3 I3=>⟨.bl (!ov.isSome),H2,I3,rfl,q2⟩
theorem Sv (hu:X.A.units+1<tO)(ho:PE X o td)(hi:PE X i ty)(hv:PE X value tv)(hs:rW value (some (.Subscript o i pos')) pos.line X.env=pure false) :
  PS X (.Assign [.Subscript o i pos'] value pos) (zD td ty tv):=by
 intro pins s σ H D I h;refine qq (thn (hv pins s σ H _ I h) fun r s1 ⟨v,H1,I1,rv,q1⟩=>thn (ho pins s1 σ H1 _ I1 q1) fun u s2 ⟨x,H2,I2,rx,q2⟩=>thn (hi pins s2 σ H2 _ I2 q2) fun iv s3 ⟨y,H3,I3,ry,a,H4,ex,g,q3⟩=>?_) hs;subst ex;obtain rfl:u=uI a:=rx;exact GX hu I3 g ry rv fun s4 I4=>⟨σ,H4,I4,q3⟩
end
theorem MA (h:Heap)(hb:tI<h.objs.size):ZC P w H (h.push { cls:=.type "dict",data:=.dict #[] }) h.objs.size (.dK []):=
 ⟨xY _,tQ.mpr (uc (yv hb)),[],.nil,Heap.DictOf.new h⟩
def BQ:TE:=fun _ H Q=>∀ p,H p=none->Q (.ref p) (upd H p (.dK []))
theorem Qk:PE X (.Dict [] [] pos) BQ:=fun pins s σ H Q I h=>
 wpAny_Dict_empty ⟨.ref s.heap.objs.size,_,I.laid (a:=s.heap.objs.size) (o:=.dK []) (t':=s.toks) (fun _ _ q=>yQ _ q) (yO _) (MA s.heap I.big),rfl,h _ (I.hok.fresh (yO _))⟩
def Px:List (TE×TE)->St->Hp->(List (V×V)->Hp->Prop)->Prop
 | [],_,H,Q=>Q [] H
 | (tk,tv)::r,σ,H,Q=>tk σ H fun x H1=>tv σ H1 fun y H2=>Px r σ H2 fun ps H3=>Q ((x,y)::ps) H3
abbrev VV:List (V×V)->List (uT×uT)->Prop:=Paired fun p q=>ZS p.1 q.1/\ZS p.2 q.2
def PPs (X:Cx)(pos:Pos)(keys:List (Option Expr))(values:List Expr)(iJ:List (TE×TE)):Prop:=
 ∀ (pins:List (Addr×Obj)) (s:uS) (σ:St) (H:Hp) (Q:List (V×V)->Hp->Prop),Inv X pins σ H s->Px iJ σ H Q->
  uP (uM X.prog X.w) X.A (evalPairs (pairTrees keys values X.env pos)) (fun vs s'=>∃ ps H',Inv X pins σ H' s'/\VV ps vs/\Q ps H') X.xe s
theorem P8 :PPs X pos [] [] []:=fun pins s σ H Q I h=>pairTrees_nil_walk ⟨[],H,I,.nil,h⟩
variable{iJ:List (TE×TE)}
theorem Vz {k v:Expr}{ks:List (Option Expr)}{vs:List Expr}{tk tv:TE}(hk:PE X k tk)(hv:PE X v tv)(hr:PPs X pos ks vs iJ) :
  PPs X pos (some k::ks) (v::vs) ((tk,tv)::iJ):=fun pins s σ H Q I h=>
 pairTrees_cons_walk (thn (hk pins s σ H _ I h) fun u s1 ⟨x,H1,I1,rx,q1⟩=>thn (hv pins s1 σ H1 _ I1 q1) fun w2 s2 ⟨y,H2,I2,ry,q2⟩=>
  thn (hr pins s2 σ H2 _ I2 q2) fun ws s3 ⟨ps,H3,I3,rel,q3⟩=>⟨(x,y)::ps,H3,I3,.cons ⟨rx,ry⟩ rel,q3⟩)
noncomputable def WG (kvs more:List (Key×V)):List (Key×V):=more.foldl (fun acc kv=>Zh acc kv.1 kv.2) kvs
theorem KV.merge:∀ {more:List (Key×V)} {rs:List (Key×uT)} {kvs:List (Key×V)} {vs:List (Key×uT)},KV more rs->KV kvs vs->KV (WG kvs more) (merged vs rs):=by
 intro more rs kvs vs r;unfold KV at r
 induction r generalizing kvs vs with
 | nil=>intro q;exact q
 | @cons p q ps qs h t ih=>
  intro r0;have e:KV (Zh kvs p.1 p.2) (stored vs q.1 q.2):=by
   have:=r0.put p.1 h.2;rw[<-h.1];exact this
  exact ih e
theorem On:∀ (more kvs:List (Key×V)),(WG kvs more).length<=kvs.length+more.length
 | [],kvs=>by show kvs.length<=kvs.length+0;omega
 | p::r,kvs=>by
  have h1:=On r (Zh kvs p.1 p.2);have h2:=QS kvs p.1 p.2;show (WG (Zh kvs p.1 p.2) r).length<=_;rw[yi];omega
theorem N0 {P:uE}{w:uw}:∀ {kvs:List (Key×V)} {ws:List (uT×uT)},VV (kvs.map fun kv=>(kV kv.1,kv.2)) ws->∃ rs,Carries (Zt P w) ws rs/\KV kvs rs
 | [],_,r=>by rw[List.map_nil]at r;cases r;exact⟨[],tH,.nil⟩
 | p::kvs,_,r=>by
  rw[ye]at r;cases r with
  | @cons a b as bs h t=>
   obtain⟨rs,c,q⟩:=N0 (P:=P) (w:=w) t;obtain⟨b1,b2⟩:=b;exact⟨(p.1,b2)::rs,⟨Wa h.1,Z,c⟩,.cons ⟨Z,h.2⟩ q⟩
def zB (iJ:List (TE×TE)):TE:=fun σ H Q=>∀ p,H p=none->Px iJ σ (upd H p (.dK [])) fun ps H2=>H2 p=some (.dK [])/\∃ kvs:List (Key×V),ps=kvs.map (fun kv=>(kV kv.1,kv.2))/\kvs.length<=15/\Q (.ref p) (upd H2 p (.dK (WG [] kvs)))
theorem Qf {keys:List (Option Expr)}{values:List Expr}(h:PPs X pos keys values iJ)(ph:keys.all (·.isSome)=true)(hl:keys.length=values.length)(h0:keys≠[])
  (h15:keys.length<=15):PE X (.Dict keys values pos) (zB iJ):=by
 intro pins s σ H Q I q;have hn:=I.hok.fresh (yO s.heap.objs.size);have I1:=I.laid (a:=s.heap.objs.size) (o:=.dK []) (h':=s.heap.push { cls:=.type "dict",data:=.dict #[] }) (t':=s.toks) (fun _ _ q=>yQ _ q) (yO _) (MA s.heap I.big);refine wpAny_Dict_walk (knd:=Zt X.prog X.w) ph hl h0 h15 (thn (h pins _ σ _ _ I1 (q _ hn)) fun ws s2 ⟨ps,H2,I2,rel,e,kvs,ep,lk,q2⟩=>?_);subst ep;obtain⟨rs,c,rk⟩:=N0 (P:=X.prog) (w:=X.w) rel;obtain⟨z,hd,vs0,r0,dd⟩:=Ro I2.hok e;cases r0;refine⟨rs,c,dd,fun h' nY hs=>⟨.ref s.heap.objs.size,_,?_,Z,q2⟩⟩;have hz:(WG [] kvs).length<=uR:=by
  have h1:=On kvs [];rw[wR]at h1;rw[rg];omega
 have he:∃ q,h'.get? s.heap.objs.size=some q:=let ⟨q,_,_,hq,_⟩:=nY;⟨q,hq⟩
 exact Se I2 (by rw[e];exact tH) hs he (KA hz hd (rk.merge .nil) nY)
end L2
namespace Att
open PySem PySem.W PySem.Calls PyProof.Rows
variable{P:Params}
theorem Jp {h:Heap}:∀ (ns:List Int) (vs:List uT),WellAll P h vs (ns.map WData.int)->tE vs ns:=by
 intro ns
 induction ns with
 | nil=>
  intro vs w;rw[List.map_nil]at w;cases w;exact .nil
 | cons n ns ih=>
  intro vs w;rw[ye]at w;cases w with
  | cons a b=>
   cases a;exact .cons _ _ (ih _ b)
variable{l:OpenLaw}
theorem Gn {n:Nat}(hn:l.most=some n){h:Heap}{args:List WData}{vals:List uT}
  (i7:l.row.toRowW.claim.pre args=true) (hwl:WellAll P h vals args) :
  ∃ a vs ns,vals=[uI a]/\args=[WData.list (ns.map WData.int)]/\h.get? a=some { cls:=.type "list",data:=.seq vs.toArray }/\tE vs ns/\ns.length<=n:=by
 have o9:WShape.hasAll [] args [.list .int]=true:=(pre_splitW i7).1;have hc:l.pre.holds [] { args:=args }=true:=(pre_splitW i7).2;obtain⟨d,r,rfl,h1,h2⟩:=hasAllW_cons o9;obtain rfl:=hasAllW_nil h2;obtain⟨xs,rfl,h3⟩:=hasW_list h1;obtain⟨ns,rfl⟩:=items_int h3;have hlen:ns.length<=n:=by
  unfold OpenLaw.pre at hc;have h4:(WTm.not (.lt (.lit (.int (n:Int))) (.len (.arg 0)))).holds [] { args:=[.list (ns.map .int)] }=true:=by
   have h4:=(holds_andW hc).1;rw[hn]at h4;exact h4
  have h5:=condW_of h4 (w_not (w_lt w_lit (w_len_list (w_arg rfl))));rw[yK]at h5;refine Nat.le_of_not_lt fun q=>?_;have q':(n:Int)<((ns.length:Nat):Int):=by omega
  first
   | (rw[uO q']at h5;exact absurd h5 (by decide))
   | (simp at h5;omega)
 cases hwl with
 | cons w1 w2=>
  cases w2;cases w1 with
  | list ho ph=>exact⟨_,_,ns,Z,Z,ho,Jp ns _ ph,hlen⟩
theorem Hi (l:OpenLaw)(args:List WData):l.row.toRowW.claim.post args (.bool true) args=true:=
 postW_of (r:=l.row.toRowW) (X:=(true==true))
  (show WShape.has [] (.bool true) .bool=true by first|rfl|decide|simp[WShape.has,WShape.arms,WShape.armsAll])
  (show (WTm.eq .res (.lit (.bool true))).value [] { args:=args,res:=some (.bool true),after:=args }=some (.bool (true==true)) from w_eq_bool (w_res rfl) w_lit) rfl
theorem attach_call {n:Nat}{q:uE}{loose:List Str}{XP:(Str->Option uT)->Heap->Prop}{YP:uw->Heap->Prop}{d:DefRec}
  (hn:l.most=some n) (bZ:d.params.defaults=[])
  (call:∀ (w:uw) (s₀ s₁:uS) (mg mb:Str->Option uT) (fa:Addr) (o:Obj) (pm cd doc:uT) (a:Addr) (vs:List uT) (ns:List Int),
   Ground q loose [] XP w s₀ mg mb s₁.heap->YP w s₁.heap->
   s₁.heap.get? fa=some o->o.data=.func (docDef d.name d.params d.body d.scope pm cd doc)->s₁.heap.CodeRec cd d.name->mg d.name=some (.ref fa)->
   s₁.heap.get? a=some { cls:=.type "list",data:=.seq vs.toArray }->tE vs ns->ns.length<=n->s₁.gens=#[]->
   rL (uM l.prog w) callerA (.call (.ref fa) ⟨[.ref a],[]⟩) (fun r s'=>r=.ok (.ret (.bool true))/\OldK s₁.heap s'.heap/\s'.os=s₁.os/\qX s'.gens) s₁) :
  WalkO q loose XP YP l.row.toRowW d [] (fun f vs=>PySem.call f vs):=by
 intro w s₀ s₁ mg mb G Y fa o pm cd doc dV kV ho hd oP hD cx hg args vals as i7 hlay hrd hwl hlo;obtain rfl:dV=.none:=Dflts.none hD bZ;obtain rfl:kV=.none:=Dflts.noKw hD;obtain⟨a,vs,ns,rfl,rfl,gz,hints,hlen⟩:=Gn hn i7 hwl;refine enter_call (rT (call w s₀ s₁ mg mb fa o pm cd doc a vs ns G Y ho (fd_plain hd) oP cx gz hints hlen hg) fun r s' hq=>?_);obtain⟨rfl,h2,h3,h4⟩:=hq;exact⟨.inl ⟨.bool true,.bool true,[],Z,fun _=>rfl,.bool true,Hi l _,fun _=>⟨List.Pairwise.nil,fun _ hm=>(nomatch hm)⟩⟩,h2,h3,h4⟩
end Att
namespace L2
open PySem PySem.Spec PyProof.Rows
theorem QK:∀ {vs:List uT} {ns:List Int},tE vs ns->ZX (ns.map V.int) vs
 | _,_,.nil=>.nil
 | _,_,.cons n t h=>.cons ⟨t,rfl⟩ (QK h)
def OI (H:Hp):Prop:=∀ b,H b=none\/∃ o xs,H b=some (.frz o (.lst xs))
variable{P:uE}{w:uw}{K:yS}{k:Nat}{fd:uC}{x:Str}
theorem ED {mg mb:Str->Option uT}{CX:CXT}{fa a:Addr}{sp:Sp}{s₁:uS}{vs:List uT}{ns:List Int}
  (KX:K.In s₁.heap) (fC:s₁.heap.Ns uG mg) (hb:s₁.heap.Ns builtinsNs mb) (hbb:∀ x:Str,x≠"__name__"->mb x=uh x) (hlim:s₁.heap.NoLimit) (hg:s₁.gens=#[])
  (ha:s₁.heap.get? a=some { cls:=.type "list",data:=.seq vs.toArray }) (hi:tE vs ns) (hl:ns.length<=uR) (hr:ZK k callerA)
  (F:∀ base:Heap,K.In base->base.Ns uG mg->Z6 P w K mg base CX k fa fd [x] sp) (bR:∀ (s:uS) (u:uT),qe s fd ⟨[u],[]⟩ [(x,u)])
  (ou:∀ H:Hp,OI H->SqL K H a (ns.map V.int)->sp [.ref a] H (fun v _=>v=.bl true) fun _ _ _=>False)
  (hCX:∀ H e s',CX [] H s₁ (fun _ _ _=>False) e s'->False) :
  rL (uM P w) callerA (.call (.ref fa) ⟨[.ref a],[]⟩) (fun r s'=>r=.ok (.ret (.bool true))/\OldK s₁.heap s'.heap/\s'.os=s₁.os/\qX s'.gens) s₁:=by
 have rv:=QK hi;have lenV:=hi.length;have core:∀ H:Hp,OI H->SqL K H a (ns.map V.int)->HOk P w H s₁.heap->(∀ b,H b≠none->b=a)->(H a≠none->K.lookup a=none)->
   rL (uM P w) callerA (.call (.ref fa) ⟨[.ref a],[]⟩) (fun r s'=>r=.ok (.ret (.bool true))/\OldK s₁.heap s'.heap/\s'.os=s₁.os/\qX s'.gens) s₁:=by
  intro H hO hS hok hA hK;have lW:∀ {b:Addr} {o:Obj},s₁.heap.get? b=some o->H b=none->(WT s₁.heap H).get? b=some o:=fun e n=>EW e n;have cS:∀ {b:Addr} {o:Obj} {es:Array qF} {ep:Nat},s₁.heap.get? b=some o->o.data=.dict es ep->H b=none:=fun {b o es ep} e d=>by
   cases q:H b with
   | none=>rfl
   | some u=>
    have e':b=a:=hA b (by rw[q];simp);subst e';rw[ha]at e;cases e;have d':Data.seq vs.toArray _=Data.dict es ep:=d;cases d'
  have ao:∀ {b:Addr} {m:Str->Option uT},s₁.heap.Ns b m->(WT s₁.heap H).Ns b m:=fun {b m} ⟨o,es,ep,e,d,r⟩=>⟨o,es,ep,lW e (cS e d),d,r⟩;have hKb:K.In (WT s₁.heap H):=fun b o e=>lW (KX b o e) (by
   cases q:H b with
   | none=>rfl
   | some u=>
    have e':b=a:=hA b (by rw[q];simp)
    subst e'
    rw[hK (by rw[q];simp)]at e;cases e)
  have hM:Mod K mg (WT s₁.heap H):=⟨hKb,ao fC,⟨mb,ao hb,hbb⟩,let ⟨mc,h1,h2⟩:=hlim;⟨mc,ao h1,h2⟩⟩;have e0:Ww P w K mg (WT s₁.heap H) callerA [] s₁ H:=⟨rfl,hM,fun b o e=>C0 e,Nat.le_of_eq (Ho _ _),trivial,fun b hb=>absurd (show b∈([]:List Addr) from hb) (by simp),hok,.of_eq hg⟩;refine rT ((F _ hKb (ao fC)).run callerA [] s₁ H ⟨[.ref a],[]⟩ [.ref a] [.ref a] _ _ hr e0 (bR s₁ (.ref a)) (.cons rfl .nil) (ou H hO hS)) fun r s' h=>?_;cases r with
  | error e=>exact (hCX H e s' h).elim
  | ok fl=>
   cases fl with
   | next=>exact uj h
   | brk=>exact uj h
   | cont=>exact uj h
   | ret u=>
    obtain⟨v,H',os,bare,un,hok',r',q⟩:=h;have q':v=.bl true:=q;subst q';obtain rfl:u=tj true:=r';refine⟨Z,OldK.of_keep fun b o e=>?_,os,bare⟩;cases q:H b with
    | none=>exact un.keep b o e q (by intro z;exact absurd (show b∈([]:List Addr) from z) (by simp)) (by simp)
    | some u=>
     rcases hO b with z|⟨ob,xs,z⟩;rw[q]at z;cases z;have z2:=un.frzs b ob _ z;obtain⟨e1,_⟩:=hok b _ z;obtain⟨e2,_⟩:=hok' b _ z2;rw[e]at e1;cases e1;exact e2
 cases hk:K.lookup a with
 | some o=>
  have e:=KX a o hk;rw[ha]at e;cases e;refine core (fun _=>none) (fun _=>.inl rfl) (.inr ⟨_,vs.toArray,_,hk,rfl,rfl,rfl,by rw[yt,lenV];exact hl,by simpa using rv⟩) (fun b u z=>by have z':(none:Option HO)=some u:=z;cases z') (fun b z=>absurd rfl z) fun z=>absurd rfl z
 | none=>
  refine core (fun b=>if b=a then some (.frz { cls:=.type "list",data:=.seq vs.toArray } (.lst (ns.map V.int))) else none) (fun b=>?_) (.inl (.inr ⟨{ cls:=.type "list",data:=.seq vs.toArray },uK rfl⟩)) (fun b u z=>?_) (fun b z=>?_) fun _=>hk;by_cases hb:b=a;exact .inr ⟨_,_,uK hb⟩;exact .inl (uL hb);by_cases hb:b=a;have z':=(uK hb).symm.trans z;cases z';subst hb;exact⟨ha,by rw[yK];exact hl,vs,_,rv,ha⟩;have z':=(uL hb).symm.trans z;cases z';by_cases hb:b=a;exact hb;exact absurd (uL hb) z
noncomputable abbrev KOf {h:Heap}(_:K.In h):yS:=K
theorem Dc {l:PySem.W.OpenLaw}{n:Nat}{q:uE}{loose:List Str}{XP:(Str->Option uT)->Heap->Prop}{YP:uw->Heap->Prop}{d:DefRec}{K:Params->yS}{CX:uw->CXT}{sp:uw->Sp}
  (hn:l.most=some n) (gw:n<=uR) (bZ:d.params.defaults=[]) (hr:ZK k callerA)
  (hY:∀ (w:uw) (h:Heap),YP w h->(K w.params).In h)
  (F:∀ (w:uw) (mg:Str->Option uT) (fa:Addr) (h:Heap),(K w.params).In h->h.Ns uG mg->mg d.name=some (.ref fa)->
   ∃ fd:uC,(∀ (s:uS) (u:uT),qe s fd ⟨[u],[]⟩ [(x,u)])/\
    ∀ base:Heap,(K w.params).In base->base.Ns uG mg->Z6 l.prog w (K w.params) mg base (CX w) k fa fd [x] (sp w))
  (ou:∀ (w:uw) (H:Hp) (a:Addr) (ns:List Int),ns.length<=n->OI H->SqL (K w.params) H a (ns.map V.int)->sp w [.ref a] H (fun v _=>v=.bl true) fun _ _ _=>False)
  (hCX:∀ (w:uw) (H:Hp) (s:uS) (e:uT) (s':uS),CX w [] H s (fun _ _ _=>False) e s'->False) :
  PySem.W.WalkO q loose XP YP l.row.toRowW d [] (fun f vs=>PySem.call f vs):=by
 refine Att.attach_call hn bZ fun w s₀ s₁ mg mb fa o pm cd doc a vs ns G Y ho hd oP cx gz hints hlen hg=>?_;have KX:=hY w _ Y;obtain⟨fd,hb,hF⟩:=F w mg fa _ KX G.T.g cx;exact ED KX G.T.g G.T.b G.T.builtins G.T.nolimit hg gz hints (xQ hlen gw) hr hF hb (fun H hO hS=>ou w H a ns hlen hO hS) fun H e s'=>hCX w H s₁ e s'
noncomputable def Yq (s:Stmt)(j:Nat):Stmt:=match s with
 | .ClassDef _ _ _ body _ _ _ _ _ _ _=>body.getD j (.Pass ⟨0,0,0,0⟩)
 | _=>.Pass ⟨0,0,0,0⟩
noncomputable def Y9 (s:Stmt):Arguments:=match s with
 | .FunctionDef _ a _ _ _ _ _ _ _ _=>a
 | _=>{ posonlyargs:=[],args:=[],vararg:=none,kwonlyargs:=[],kw_defaults:=[],kwarg:=none,defaults:=[] }
noncomputable def Zi (s:Stmt):List Stmt:=match s with
 | .FunctionDef _ _ b _ _ _ _ _ _ _=>b
 | _=>[]
noncomputable def Z2 (s:Stmt):rX:=match s with
 | .FunctionDef _ _ _ _ _ _ sc _ _ _=>sc
 | _=>{ kind:=.function,names:=[],isGenerator:=false,isCoroutine:=false }
noncomputable abbrev CX0:CXT:=fun _ _ _ _ _ _=>False
abbrev E0:XK:=fun _ _ _=>False
variable{X:Cx}
theorem Y8 :YE CX0 X E0:=fun _ _ _ _ _ _ _ h=>h.elim
structure Fun (K:yS)(x qual:Str)(st:Stmt)(f:Addr)(fd:uC):Prop where
 ex:∃ (oc:uT) (od:Option Addr) (kV doc pm:uT) (an:Option Addr) (pK ct:uT) (oR:Array (Option uT)),
  fd=yd x qual (Y9 st) (Zi st) (Z2 st) .none kV doc pm an pK ct/\K.lookup f=some ⟨oc,od,.func fd,oR⟩/\xG K pK qual=true
 kp:yf K (.ref f)=true
variable {P:uE}{w:uw}{K:yS}{mg:Str->Option uT}{base:Heap}
variable{qual:Str}{st:Stmt}{f:Addr}
theorem Fun.ok {N ps:List Str}{sp:Sp}(F:Fun K x qual st f fd)(S:ZT N ps (Z2 st))(len:∀ vs H Q E,sp vs H Q E->vs.length=ps.length)
  (oS:∀ (pK:uT) (A:uq) (outer:List Env) (s:uS) (H:Hp) (vs:List V) (Q:VK) (E:XK),ZK k (A.deeper (rC qual (Z2 st) s.heap.objs.size f pK))->sp vs H Q E->
   ∃ t,PSs (Zb CX0 P w K mg base N qual (Z2 st) f pK A outer s H E).nox (Zi st) t/\t { nx:=fun _ H'=>Q .non H',rt:=Q } (start N vs) H):Z6 P w K mg base CX0 (k+1) f fd ps sp:=by
 obtain⟨oc,od,kV,doc,pm,an,pK,ct,oR,rfl,lk,oP⟩:=F.ex;refine O7 lk oP S len fun A outer s H vs Q E hr ou=>?_;obtain⟨t,h,q⟩:=oS pK A outer s H vs Q E hr ou;exact⟨t,h.nox,q⟩
theorem Fun.binds {ps:List Str}(F:Fun K x qual st f fd)
  (h:∀ (kV doc pm:uT) (an:Option Addr) (pK ct:uT) (us:List uT),us.length=ps.length->qj (yd x qual (Y9 st) (Zi st) (Z2 st) .none kV doc pm an pK ct) ⟨us,[]⟩=pure (ps.zip us)):Zn K fd ps []:=by
 obtain⟨oc,od,kV,doc,pm,an,pK,ct,oR,rfl,lk,oP⟩:=F.ex;exact .all (h kV doc pm an pK ct)
theorem T9 {oc:uT}{od an:Option Addr}{oR:Array (Option uT)}{kV doc pm pK ct:uT}(l:K.lookup f=some ⟨oc,od,.func (yd x qual (Y9 st) (Zi st) (Z2 st) .none kV doc pm an pK ct),oR⟩)
  (c:xG K pK qual=true) (k:yf K (.ref f)=true):Fun K x qual st f (yd x qual (Y9 st) (Zi st) (Z2 st) .none kV doc pm an pK ct):=⟨⟨oc,od,kV,doc,pm,an,pK,ct,oR,rfl,l,c⟩,k⟩
variable{A:uq}
theorem RA (hr:ZK k A):A.units+1<tO:=xI (Nat.add_le_add_left (by decide:1<=64) _) hr.units
theorem YN {n:Nat}(h:n<=1000):n<uR:=xI h (by decide)
theorem pv (i:Nat){pos:Pos}(hN:X.N[i]?=some x:=by rfl)(hv:Vis X.env.scope x:=by first|exact ug rfl|exact Or.inr (ug rfl)|exact Or.inr (Or.inr rfl))(hd:(x==("__debug__":Str))=false:=by decide)
  (oP:(x==("__classdict__":Str))=false:=by decide):PE X (.Name x pos) (ZN i):=AF hN hv hd oP
variable{B:Prop}
theorem ZZ {A:Prop}(h:B):if false=true then A else B:=by
 rw[uL yC];exact h
theorem ZP {A:Prop}(h:A):if true=true then A else B:=by
 rw[uK rfl];exact h
theorem YC {c A:Prop}[Decidable c](h1:c->A)(h2:¬ c->B):if c then A else B:=by
 by_cases h:c;rw[uK h];exact h1 h;rw[uL h];exact h2 h
theorem J7 {c A:Prop}[Decidable c](hc:c)(h:B):if (!decide c)=true then A else B:=by
 rw[uO hc];exact ZZ h
def Z8 (H H':Hp):Prop:=∀ b o,H b=some o->H' b=some o
theorem Z8.refl (H:Hp):Z8 H H:=fun _ _ h=>h
variable{H H1:Hp}
theorem Z8.trans {H2:Hp}(a:Z8 H H1)(b:Z8 H1 H2):Z8 H H2:=fun c o h=>b c o (a c o h)
theorem Z8.free {H':Hp}(e:Z8 H H'){l:Addr}(h:H' l=Option.none):H l=Option.none:=by
 cases q:H l with
 | none=>rfl
 | some o=>
  rw[e l o q]at h;cases h
theorem Z8.seq {H':Hp}{a:Addr}{xs:List V}(e:Z8 H H')(h:SqL K H a xs):SqL K H' a xs:=by
 rcases h with (h|⟨o,h⟩)|h;exact .inl (.inl (e _ _ h));exact .inl (.inr ⟨o,e _ _ h⟩);exact .inr h
theorem HR:Y7 X (.builtin "len") (fun xs H Q=>∃ a kvs,xs=[V.ref a]/\H a=some (.dK kvs)/\Q (.int kvs.length) H):=by
 intro pins s σ H xs us Q I r h;obtain⟨a,kvs,rfl,ha,q⟩:=h;obtain⟨u,rfl,ru⟩:=YX r;cases ru;exact As I (.inl ha) fun t s' I'=>⟨.int kvs.length,H,I',⟨t,rfl⟩,q⟩
section
variable {κ:Type}[DecidableEq κ]
theorem Mi {kvs:List (κ×V)}{k:κ}{v:V}(h:Zu kvs k=some v):k∈kvs.map (·.1):=by
 have q:(kvs.any fun kv=>decide (kv.1=k))=true:=by
  rw[VD,h]
  all_goals rfl
 obtain⟨p,hp,e⟩:=xq.mp q;exact yE.mpr ⟨p,hp,uF e⟩
end
variable{pos:Pos}
theorem Gv {prog:uE}{R:Result->uS->Prop}{s:uS}{elt target iter:Expr}{scope:rX}{it acc:uT}{env:Env}(I:Nat->uS->Prop)
  (turn:∀ n s,I n s->uP (uM prog w) A (rD it) (fun r s₁=>match r with
   | none=>R (.ok .next) s₁
   | some v=>uP (uM prog w) A (rQ target it v) (fun _ s₀=>uP (uM prog w) A (qt target env v) (fun _ s₂=>
     uP (uM prog w) A (eval elt env) (fun x s₄=>
       uP (uM prog w) A (call (.builtin "list.append") [acc,x]) (fun _ s₅=>∃ m,m<n/\I m s₅) (rZ (uM prog w) A env fun e s'=>R (.error e) s') s₄) (rZ (uM prog w) A env fun e s'=>R (.error e) s') s₂)
     (rZ (uM prog w) A env fun e s'=>R (.error e) s') s₀) (rZ (uM prog w) A env fun e s'=>R (.error e) s') s₁) (rZ (uM prog w) A env fun e s'=>R (.error e) s') s)
  (n:Nat) (h:I n s) :
  rL (uM prog w) A (.compLoop (.ListComp elt [⟨target,iter,[],0⟩] scope pos) 0 it acc env) R s:=by
 refine codeAny_loop rfl I (fun n s hI=>?_) n h;show uP _ A ((compTurn (.ListComp elt [⟨target,iter,[],0⟩] scope pos) 0 it acc env).onRaise (fun x=>do pN x env;theTreesLotGoes x)) _ _ s;refine wpAny_noted ?_;rw[compTurn_list];refine uV (qL (uV (uA (turn n s hI) (fun r s₁ h₁=>?_) fun _ _ h'=>h')));cases r with
 | none=>exact uQ h₁
 | some v=>
  refine uV (uA h₁ (fun _ s₀ h₀=>?_) fun _ _ h'=>h');refine uV (uA h₀ (fun _ s₂ h₂=>uV (wpAny_tests_nil ?_)) fun _ _ h'=>h');exact uV (uV (uA h₂ (fun x s₄ h₄=>uV (uA h₄ (fun _ s₅ h₅=>uQ (uQ ⟨rfl,h₅⟩)) fun _ _ h'=>h')) fun _ _ h'=>h'))
theorem WO {env:Env}:∀ (names:List (Str×r6)) (cs:List (Str×Addr)),(∀ y∈names,y.2=.free->∃ c,env.cells.lookup y.1=some c)->(∀ x c,cs.lookup x=some c->env.cells.lookup x=some c)->
  ∃ cl,(forIn names cs (fun (x:Str×r6) (r:List (Str×Addr))=>if (x.2==tG)=true then do let c <-cellOf env x.1;pure (pY ((x.1,c)::r)) else pure (pY r)):Sem (List (Str×Addr)))=pure cl/\
   (∀ x c,cl.lookup x=some c->env.cells.lookup x=some c)/\(∀ x c,cs.lookup x=some c->cl.lookup x=some c)/\∀ y∈names,y.2=.free->∃ c,cl.lookup y.1=some c
 | [],cs,_,gh=>⟨cs,by simp,gh,fun _ _ h=>h,fun y hy=>nomatch hy⟩
 | (n,k)::r,cs,h,gh=>by
  by_cases hk:k=.free
  ·subst hk;obtain⟨c,hc⟩:=h (n,.free) xS rfl;have hcs':∀ x d,((n,c)::cs).lookup x=some d->env.cells.lookup x=some d:=fun x d e=>by
    rw[xU]at e;split at e
    ·rename_i q;have q':x=n:=by simpa using q
     cases e;rw[q'];exact hc
    exact gh x d e
   obtain⟨cl,e,h1,h2,h3⟩:=WO r ((n,c)::cs) (fun y hy=>h y (yx _ hy)) hcs';refine⟨cl,?_,h1,fun x d hd=>?_,fun y hy af=>?_⟩;rw[wA];simp only[cellOf,hc,qi,qz,pure_bind];exact e
   ·refine h2 x d ?_;rw[xU];split
    ·rename_i q;have q':x=n:=by simpa using q
     have:=gh x d hd;rw[q',hc]at this;exact this
    exact hd
   rcases yl.mp hy with rfl|hy;exact⟨c,h2 n c (by simp[xU])⟩;exact h3 y hy af
  obtain⟨cl,e,h1,h2,h3⟩:=WO r cs (fun y hy=>h y (yx _ hy)) gh;refine⟨cl,?_,h1,h2,fun y hy af=>?_⟩;have gn:(k==tG)=false:=by simpa using hk
  rw[wA];simp only[gn,xH,q0,pure_bind];exact e;rcases yl.mp hy with rfl|hy;exact absurd af hk;exact h3 y hy af
theorem VN (scope:rX)(env:Env):closureFor scope env=(forIn scope.names [] (fun (x:Str×r6) (r:List (Str×Addr))=>if (x.2==tG)=true then do let c <-cellOf env x.1;pure (pY ((x.1,c)::r)) else pure (pY r)):Sem (List (Str×Addr))):=by
 unfold closureFor;simp
theorem Os {env:Env}(hk:env.scope.kind=.function):∀ {names:List (Str×r6)} {x:Str},names.lookup x=some .free->env.kindOf x=some .cell->
  (names.map fun (n,k)=>if (k==tG&&env.scope.kind == .function&&env.kindOf n==some .cell) then (n,NameKind.cell) else (n,k)).lookup x=some .cell
 | [],_,h,_=>by simp at h
 | (n,k)::r,x,h,hc=>by
  have ih:=@Os env hk r x;show xx x ((if (k==tG&&env.scope.kind == .function&&env.kindOf n==some .cell)=true then (n,NameKind.cell) else (n,k))::_)=_;cases hx:x==n with
  | true=>
   simp only[xU,hx]at h;cases h;have e:x=n:=by simpa using hx
   subst e;simp[xU,hk,hc]
  | false=>
   simp only[xU,hx]at h;by_cases mG:(k==tG&&env.scope.kind == .function&&env.kindOf n==some .cell)=true;rw[uK mG];simp only[xU,hx];exact ih h hc;rw[uL mG];simp only[xU,hx];exact ih h hc
theorem Ob {env:Env}:∀ {names:List (Str×r6)} {x:Str},(∀ y∈names,y.2≠.cell)->
  ((names.map fun (n,k)=>if (k==tG&&env.scope.kind == .function&&env.kindOf n==some .cell) then (n,NameKind.cell) else (n,k)).lookup x=some .cell\/
  (names.map fun (n,k)=>if (k==tG&&env.scope.kind == .function&&env.kindOf n==some .cell) then (n,NameKind.cell) else (n,k)).lookup x=some .free)->(x,tG)∈names
 | [],_,_,h=>by simp at h
 | (n,k)::r,x,hn,h=>by
  have ih:=@Ob env r x fun y hy=>hn y (yx _ hy);have hk:k≠.cell:=hn (n,k) xS;cases hx:x==n with
  | true=>
   have e:x=n:=by simpa using hx
   subst e;by_cases hf:k=.free;subst hf;exact xS;have hf':¬ (k==tG&&env.scope.kind == .function&&env.kindOf x==some .cell)=true:=(by simp[hf]);simp only[ye,uL hf',xU,qi]at h;rcases h with h|h;exact absurd (uz.inj h) hk;exact absurd (uz.inj h) hf
  | false=>
   refine yx _ (ih ?_);by_cases mG:(k==tG&&env.scope.kind == .function&&env.kindOf n==some .cell)=true;simpa only [ye,uK mG,xU,hx] using h
   simpa only [ye,uL mG,xU,hx] using h
noncomputable def blk (X:Cx)(sc:rX)(cl:List (Str×Addr))(C:Addr)(N':List Str)(s₂:uS)(H₁:Hp)(fp:List Addr)(pins:List (Addr×Obj)):Cx where
 prog:=X.prog
 w:=X.w
 K:=X.K
 mg:=X.mg
 base:=X.base
 A:=X.A
 N:=N'
 s₀:=s₂
 H₀:=H₁
 env:=qZ sc cl C X.env
 outer:=X.stack
 stack:=X.stack
 ex:=fp
 fn:=fun _=>false
 calm:=X.calm
 pn:=X.pn++pins
 xe:=fun _ _=>False
structure Xg (N:List Str)(names:List (Str×r6))(N':List Str)(k:Nat)(pull:List Nat)(sc:rX):Prop where
 kind:sc.kind=.function
 nocell:∀ y∈sc.names,y.2≠.cell
 loc:∀ y∈sc.names,y.2=.local->sc.names.lookup y.1=some .local
 len:N'.length=k+pull.length
 cap:∀ i∈yI pull.length,N'[k+i]?=N[pull.getD i 0]?/\∀ x∈(N'[k+i]?).toList,sc.names.lookup x=some .free
 fre:∀ y∈sc.names,y.2=.free->names.lookup y.1=some .cell
noncomputable def bst (k:Nat)(pull:List Nat)(σ:St):St:=wF k none++pull.map fun j=>σ.getD j none
theorem HOk.but {h h':Heap}{C:Addr}(x:HOk P w H h)(hn:H C=none)(k:∀ b o,b≠C->h.get? b=some o->h'.get? b=some o):HOk P w H h':=fun b u e=>by
 have cP:∀ b u,H b=some u->b≠C:=fun b u e z=>by rw[z,hn]at e;cases e
 refine (x b u e).stay (fun c v hc q=>k c v ?_ q) (fun _ q=>q) fun _ _ q=>q;rcases hc with z|z;rw[z];exact cP b u e;exact cP c _ z
def YK (wi:TI)(k:Nat)(pull:List Nat)(g:TG)(te:TE):TE:=fun σ H Q=>wi σ H fun J H1=>∀ d,H1 d=none->
 ∃ W:Nat->Nat->St->Hp->Prop,(∃ m,W 0 m (bst k pull σ) (upd H1 d (.lst [])))/\∀ i m σ' H',W i m σ' H'->
  (J.stop i H'/\Q (.ref d) H')\/
  (J.go i H'/\∀ x H2,J.yld i H' x H2->g x σ' H2 fun σ3 H3=>te σ3 H3 fun y H4=>∃ xs,H4 d=some (.lst xs)/\xs.length<uR/\∃ m',m'<m/\W (i+1) m' σ3 (upd H4 d (.lst (xs++[y]))))
variable{pins:List (Addr×Obj)}{σ:St}{s2:uS}{fp:List Addr}{cl:List (Str×Addr)}
section
variable {elt tg iter:Expr}{sc:rX}{wi:TI}{g:TG}{te:TE}{N:List Str}{names:List (Str×r6)}{N':List Str}{pull:List Nat}
theorem NQ {h₁:Heap}{tk:Nat}(B:Xg N names N' k pull sc)(hN:X.N=N)(nV:X.env.scope.names=names)
  (I2:Inv X pins σ H1 s2) (f2:∀ b∈fp,Y1 X pins H1 b) (ho:∀ b∈fp,∃ o,s2.heap.get? b=some o)
  (c1:∀ x c,cl.lookup x=some c->X.env.cells.lookup x=some c) (c3:∀ y∈sc.names,y.2=.free->∃ c,cl.lookup y.1=some c)
  (fC:h₁.Ns (s2.heap.objs.size+1) (fun x=>([]:List (Str×uT)).reverse.lookup x))
  (hk:∀ b o,s2.heap.get? b=some o->h₁.get? b=some o) (hd:h₁.get? s2.heap.objs.size=some { cls:=.type "list",data:=.seq ([]:List uT).toArray }) :
  Inv (blk X sc cl (s2.heap.objs.size+1) N' s2 H1 fp pins) [] (bst k pull σ) (upd H1 s2.heap.objs.size (.lst [])) { s2 with heap:=h₁,toks:=tk }:=by
 have hfd:H1 s2.heap.objs.size=none:=I2.hok.fresh (yO _);have hfC:(upd H1 s2.heap.objs.size (.lst [])) (s2.heap.objs.size+1)=none:=by
  rw[Z5 (vH _)];exact I2.hok.fresh (wJ _)
 have cw:∀ x,(qZ sc cl (s2.heap.objs.size+1) X.env).kindOf x=some .cell\/(qZ sc cl (s2.heap.objs.size+1) X.env).kindOf x=some .free->(x,tG)∈sc.names:=fun x hx=>
  Ob (env:=X.env) B.nocell hx
 have jQ:∀ y∈sc.names,y.2=.free->X.env.kindOf y.1=some .cell:=fun y hy hf=>by
  show X.env.scope.names.lookup y.1=_;rw[nV];exact B.fre y hy hf
 refine⟨⟨I2.ok.mod,B.kind,I2.ok.glob,I2.ok.blt,wJ _,fun x y c e1 e2=>I2.ok.inj x y c (c1 x c e1) (c1 y c e2),fun x hx=>c3 _ (cw x hx) Z,(fun x c h _=>nomatch h),I2.ok.hd,I2.ok.frames,.inl Z,fun b hb=>⟨?_,fun x c e=>?_⟩,I2.bs,xQ I2.ok.bsz I2.sz,fun b o e hb=>?_,fun b hb hs=>?_,I2.stack,I2.stkFree⟩,
  Z,I2.bare,Un.laid hk (yO _) hfd,⟨_,fC,fun i x v e1 e2 e3=>?_⟩,fun x c e=>?_,hfC,fun x c e=>?_,fun p hp=>?_,I2.hok.laid hk (yO _) ⟨xY _,[],0,.nil,hd⟩,?_⟩
 obtain⟨o,e⟩:=ho b hb;exact yv (xZ (yM e));exact (f2 b hb).2.2.2.2.1 x c (c1 x c e);rcases (f2 b hb).2.2.2.1 with z|z;exact I2.ok.noex b o e z;exact absurd (yz (yM e) (xQ I2.ok.bsz z)) (xN _);rcases yl.mp (I2.stkSub b hs) with z|z;exact (f2 b hb).2.1 z;exact (f2 b hb).2.2.1 z
 ·
  have e2:(bst k pull σ)[i]?=some (some v):=e2;unfold bst at e2;by_cases hi:i<k;rw[yq (by simpa using hi),uY,uK hi]at e2;cases e2
  ·rw[xX (by simpa using hi),vO,yw]at e2;cases ej:pull[i-k]? with
   | none=>rw[ej]at e2;cases e2
   | some j=>
    rw[ej]at e2;have e2:σ.getD j none=some v:=uz.inj e2;have hj:σ[j]?=some (some v):=by
     rw[yG]at e2;cases q:σ[j]? with
     | none=>rw[q]at e2;cases e2
     | some z=>rw[q]at e2;simpa using e2
    have b6:i-k<pull.length:=(yP.mp ej).1;obtain⟨q1,q2⟩:=B.cap (i-k) (yL.mpr b6);have ei:k+(i-k)=i:=(by omega);have ep:pull.getD (i-k) 0=j:=(by rw[yG,ej];rfl);have e1:N'[i]?=some x:=e1;rw[ei,ep,e1]at q1;rw[ei,e1]at q2;have hf:=q2 x (by simp);have i6:=r9 hf;have hc:=jQ (x,.free) i6 rfl;obtain⟨m,hn,hl⟩:=I2.loc;obtain⟨u,r,l⟩:=hl j x v (by rw[hN];exact q1.symm) hj (.inr (.inl hc));refine⟨u,r,.inr ⟨.inl (Os I2.ok.kind hf hc),?_⟩⟩;rcases l with ⟨cq,_⟩|⟨_,c,ec,hcell⟩;rw[hc]at cq;cases cq;obtain⟨c',ec'⟩:=c3 (x,.free) i6 rfl;have:=c1 x c' ec';rw[ec]at this;cases this;obtain⟨o,h1,h2⟩:=hcell;exact⟨c,ec',o,hk c o h1,h2⟩
 obtain⟨v,o,h1,h2⟩:=I2.cell x c (c1 x c e);exact⟨v,o,hk c o h1,h2⟩;obtain⟨v,o,h1,h2⟩:=I2.cell x c (c1 x c e);rw[Z5 (yv (yM h1))];exact I2.freeC x c (c1 x c e);have hp:p∈X.pn++pins:=by simpa [blk] using hp
 obtain⟨a1,a2,a3,a4,a5⟩:=I2.pin p hp;have pJ:=yM a1;refine⟨hk _ _ a1,by rw[Z5 (yv pJ)];exact a2,?_,fun hs=>?_,a5⟩;exact yv (xZ pJ);rcases yl.mp (I2.stkSub p.1 hs) with z|z;exact a3 z;exact a4 z
 ·show (bst k pull σ).length=N'.length;unfold bst;rw[yJ,vO,yK,B.len]
theorem UJ {tn:Nat->Heap->Prop}{it:Addr}{J:It}{use:Option (uT->Sem Unit)}{Qp:uT->uS->Prop}{Z:Nat->Hp->Prop}(B:Xg N names N' k pull sc)(hN:X.N=N)(nV:X.env.scope.names=names)(I2:Inv X pins σ H1 s2)(c1:∀ (x:Str) (c:Addr),cl.lookup x=some c->X.env.cells.lookup x=some c)(c3:∀ y∈sc.names,y.2=.free->∃ c,cl.lookup y.1=some c)(f2:∀ b∈fp,Y1 X pins H1 b)(mK:tn 0 s2.heap)
  (obj:∀ i h,tn i h->∀ b∈fp,∃ o,h.get? b=some o/\∀ v,o.data≠.cell v) (keep:∀ i h h',tn i h->(∀ b∈fp,∀ o,h.get? b=some o->h'.get? b=some o)->tn i h')
  (item:∀ (i:Nat) (s:uS) (σ':St) (H':Hp) (E:uT->uS->Prop),Inv (blk X sc cl (s2.heap.objs.size+1) N' s2 H1 fp pins) [] σ' H' s->(∀ b∈fp,Y1 (blk X sc cl (s2.heap.objs.size+1) N' s2 H1 fp pins) [] H' b)->tn i s.heap->J.go i H'->uP (uM X.prog X.w) X.A (rD (.ref it)) (fun r s1=>∃ u,r=some u/\uP (uM X.prog X.w) X.A (rQ tg (.ref it) u) (fun _ s3=>∃ x dU,Inv (blk X sc cl (s2.heap.objs.size+1) N' s2 H1 fp pins) [] σ' dU s3/\ZS x u/\J.yld i H' x dU/\tn (i+1) s3.heap/\∀ b∈fp,dU b=none) E s1) E s)
  (self:∀ (s:uS) (Q:uT->uS->Prop) (E:uT->uS->Prop),tn 0 s.heap->Q (.ref it) s->uP (uM X.prog X.w) X.A (pyIter (.ref it)) Q E s)
  (hW:∃ W:Nat->Nat->St->Hp->Prop,(∃ m,W 0 m (bst k pull σ) (upd H1 s2.heap.objs.size (.lst [])))/\∀ i m σ' H',W i m σ' H'->Z i H'\/(J.go i H'/\∀ x H2,J.yld i H' x H2->g x σ' H2 fun σ3 H3=>te σ3 H3 fun y H4=>∃ xs,H4 s2.heap.objs.size=some (.lst xs)/\xs.length<uR/\∃ m',m'<m/\W (i+1) m' σ3 (upd H4 s2.heap.objs.size (.lst (xs++[y])))))
  (hg:PG (blk X sc cl (s2.heap.objs.size+1) N' s2 H1 fp pins) tg g) (he:∀ pI s6 σ6 H6 R,Inv (blk X sc cl (s2.heap.objs.size+1) N' s2 H1 fp pins) pI σ6 H6 s6->te σ6 H6 R->uP (uM X.prog X.w) X.A (eval elt (qZ sc cl (s2.heap.objs.size+1) X.env)) (EP (blk X sc cl (s2.heap.objs.size+1) N' s2 H1 fp pins) pI σ6 R) (rZ (uM X.prog X.w) X.A (qZ sc cl (s2.heap.objs.size+1) X.env) fun e s'=>qY (uM X.prog X.w) X.A X.xe use Qp (.ref s2.heap.objs.size) (s2.heap.objs.size+1) (.error e) s') s6)
  (hd:∀ i σ3 H3 s3,Inv (blk X sc cl (s2.heap.objs.size+1) N' s2 H1 fp pins) [] σ3 H3 s3->(∀ b∈fp,Y1 (blk X sc cl (s2.heap.objs.size+1) N' s2 H1 fp pins) [] H3 b)->tn i s3.heap->Z i H3->uP (uM X.prog X.w) X.A (rD (.ref it)) (fun r s4=>r=none/\qY (uM X.prog X.w) X.A X.xe use Qp (.ref s2.heap.objs.size) (s2.heap.objs.size+1) (.ok .next) s4) (rZ (uM X.prog X.w) X.A (qZ sc cl (s2.heap.objs.size+1) X.env) fun e s'=>qY (uM X.prog X.w) X.A X.xe use Qp (.ref s2.heap.objs.size) (s2.heap.objs.size+1) (.error e) s') s3) :
  uP (uM X.prog X.w) X.A (newList []) (fun acc s₃=>uP (uM X.prog X.w) X.A (newFunctionEnv sc X.env.globals cl [] X.env.qual none .none (some X.env)) (fun ba s₄=>rL (uM X.prog X.w) X.A (.compStart (.ListComp elt [⟨tg,iter,[],0⟩] sc pos) 0 (.ref it) acc { ba with scope:=relabel sc X.env }) (qY (uM X.prog X.w) X.A X.xe use Qp acc ba.locals) s₄) X.xe s₃) X.xe s2:=by
 have ho:∀ b∈fp,∃ o,s2.heap.get? b=some o:=fun b hb=>let ⟨o,e,_⟩:=obj _ _ mK b hb;⟨o,e⟩
 refine tZ (wpAny_newFunctionEnv B.nocell (by intro y hy;simp at hy) (fun h₁ oW pf=>?_) B.kind);dsimp only at oW pf ⊢;rw[xV]at oW pf ⊢;have old:∀ b o,s2.heap.get? b=some o->h₁.get? b=some o:=fun b o e=>by
  have pJ:=yM e;exact (pf.2 b (yv (xZ pJ))).trans (yQ _ (yQ _ e))
 have js:h₁.get? s2.heap.objs.size=some { cls:=.type "list",data:=.seq ([]:List uT).toArray }:=
  (pf.2 _ (yv (xr _))).trans (yQ _ (yN _ rfl))
 have I4:=NQ (tk:=s2.toks+([]:List (Str×uT)).length) B hN nV I2 f2 ho c1 c3 oW old js;have dj:tn 0 h₁:=keep _ _ _ mK fun b _ o e=>old b o e;obtain⟨W,⟨m0,w0⟩,turn⟩:=hW;have jm:∀ b∈fp,(upd H1 s2.heap.objs.size (.lst [])) b=none:=fun b hb=>by
  obtain⟨o,e⟩:=ho b hb;rw[Z5 (yv (yM e))];exact (f2 b hb).1
 have ow:∀ {H':Hp},(∀ b∈fp,H' b=none)->∀ b∈fp,Y1 (blk X sc cl (s2.heap.objs.size+1) N' s2 H1 fp pins) [] H' b:=fun hn b hb=>by
  refine⟨hn b hb,(I4.ok.exf b hb).1,I4.ok.exfs b hb,.inl hb,(I4.ok.exf b hb).2,fun p hp=>?_⟩;have hp:p∈X.pn++pins:=by simpa [blk] using hp
  exact (f2 b hb).2.2.2.2.2 p hp
 have loop:∀ s₃:uS,s₃={ s2 with heap:=h₁,toks:=s2.toks+([]:List (Str×uT)).length }->
   rL (uM X.prog X.w) X.A (.compLoop (.ListComp elt [⟨tg,iter,[],0⟩] sc pos) 0 (.ref it) (.ref s2.heap.objs.size) (qZ sc cl (s2.heap.objs.size+1) X.env))
    (qY (uM X.prog X.w) X.A X.xe use Qp (.ref s2.heap.objs.size) (s2.heap.objs.size+1)) s₃:=by
  rintro s₃ rfl;refine Gv (fun n s'=>∃ i σ' H',Inv (blk X sc cl (s2.heap.objs.size+1) N' s2 H1 fp pins) [] σ' H' s'/\tn i s'.heap/\(∀ b∈fp,H' b=none)/\W i n σ' H') ?_ m0 ⟨0,_,_,I4,dj,jm,w0⟩;rintro n s3 ⟨i,σ3,H3,I3,st3,fr3,w3⟩;rcases turn i n σ3 H3 w3 with z|⟨go,step⟩;refine uA (hd i σ3 H3 s3 I3 (ow fr3) st3 z) (fun r s4 ⟨hr,q⟩=>?_) fun _ _ z=>z;subst hr;exact q;refine thn (item i s3 σ3 H3 _ I3 (ow fr3) st3 go) fun r s4 ⟨u,hr,h4⟩=>?_;subst hr;refine thn h4 fun _ s5 ⟨x,H5,I5,r5,y5,st5,fr5⟩=>?_;have aS:=I5.pinned (ow fr5) (obj _ _ st5);refine uA (hg _ s5 σ3 H5 x u _ aS r5 (step x H5 y5)) (fun _ s6 ⟨σ6,H6,I6,q6⟩=>?_) fun _ _ z=>z.elim;refine uA (he _ s6 σ6 H6 _ I6 q6) (fun y s7 ⟨z,H7,I7,r7,xs,hx7,hz7,m',hm,w7⟩=>?_) fun _ _ z=>z;refine uA (Xn (X:=blk X sc cl (s2.heap.objs.size+1) N' s2 H1 fp pins) _ s7 σ6 H7 (.ref s2.heap.objs.size) [z] (.ref s2.heap.objs.size) [y] (fun _ H8=>H8=upd H7 s2.heap.objs.size (.lst (xs++[z]))) I7 rfl (.cons r7 .nil) ⟨_,xs,z,rfl,rfl,hx7,hz7,rfl⟩) (fun _ s8 ⟨_,H8,I8,_,e8⟩=>?_) fun _ _ z=>z.elim;subst e8;refine⟨m',hm,i+1,σ6,_,I8.unpinned,keep _ _ _ st5 fun b hb o e=>(I8.pin (b,o) (yr _ (yr _ (WM hb e)))).1,fun b hb=>?_,w7⟩;obtain⟨o,e,_⟩:=obj _ _ st5 b hb;exact (I8.pin (b,o) (yr _ (yr _ (WM hb e)))).2.1
 exact codeAny_compStart_list (loop _ rfl) (self _ _ _ dj (loop _ rfl))
theorem Qv {σ3:St}{H3:Hp}{s4:uS}{Q:VK}(I2:Inv X pins σ H1 s2)(f2:∀ b∈fp,Y1 X pins H1 b)(I5:Inv (blk X sc cl (s2.heap.objs.size+1) N' s2 H1 fp pins) [] σ3 H3 s4)(q:Q (.ref s2.heap.objs.size) H3):∃ m,s4.heap.Ns (s2.heap.objs.size+1) m/\∀ h',xb (s2.heap.objs.size+1) s4.heap h'->EP X pins σ Q (.ref s2.heap.objs.size) { s4 with heap:=h' }:=by
 obtain⟨m,hn,_⟩:=id I5.loc;refine⟨m,hn,fun h' oG=>?_⟩;have ne:∀ b o,s2.heap.get? b=some o->b≠s2.heap.objs.size+1:=fun b o e=>yv (xZ (yM e));have U:Un (frs X.stack) fp H1 H3 s2.heap s4.heap:=I5.base;have U':Un (frs X.stack) fp H1 H3 s2.heap h':=⟨fun b o e n hb hx=>(oG.2 b (ne b o e)).trans (U.keep b o e n hb hx),fun b o e n hb hx=>by
   obtain⟨sl,z⟩:=U.slot b o e n hb hx
   exact⟨sl,(oG.2 b (ne b o e)).trans z⟩,U.free,fun b o e hx=>by
   obtain⟨o',z⟩:=U.there b o e hx
   exact⟨o',(oG.2 b (ne b o e)).trans z⟩,U.tups,U.frzs,U.tbls⟩
 have hok:HOk X.prog X.w H3 h':=HOk.but (C:=s2.heap.objs.size+1) I5.hok I5.free fun b o hb e=>(oG.2 b hb).trans e;refine⟨.ref s2.heap.objs.size,H3,I2.call' (s':={ s4 with heap:=h' }) I5.os U' hok I5.bare fun b hb=>?_,Z,q⟩;exact⟨(f2 b hb).2.2.2.1,(f2 b hb).2.1,(f2 b hb).2.2.2.2.1,(f2 b hb).2.2.2.2.2⟩
theorem X4 (hc:X.calm=true)(B:Xg N names N' k pull sc)(hN:X.N=N)(nV:X.env.scope.names=names)(hi:PI X tg iter wi)
  (hg:∀ cl C s₂ H₁ fp pins,PG (blk X sc cl C N' s₂ H₁ fp pins) tg g) (he:∀ cl C s₂ H₁ fp pins,PE (blk X sc cl C N' s₂ H₁ fp pins) elt te)
  (hs:∀ x,sx iter X.env x=pure x:=by intro _;rfl):PE X (.ListComp elt [⟨tg,iter,[],0⟩] sc pos) (YK wi k pull g te):=by
 intro pins s σ H Q I h;rw[eval_ListComp];have pD:∀ y∈sc.names,y.2=.free->∃ c,X.env.cells.lookup y.1=some c:=fun y hy hf=>I.ok.has y.1 (.inl (by
  show X.env.scope.names.lookup y.1=_
  rw[nV];exact B.fre y hy hf))
 obtain⟨cl,ecl,c1,_,c3⟩:=WO (env:=X.env) sc.names [] pD (fun x c e=>nomatch e);rw[<-VN]at ecl;refine sR (use:=none) rfl hs ecl B.kind B.loc (thn (hi pins s σ H _ I h) fun xv s1 h1=>thn h1 fun ju s2 h2=>?_);obtain⟨it,fp,tn,J,H1,e,I2,T,mK,f2,hW⟩:=h2;subst e;refine UJ B hN nV I2 c1 c3 f2 mK T.obj T.keep (fun i=>T.item (blk X sc cl (s2.heap.objs.size+1) N' s2 H1 fp pins) rfl rfl rfl hc i []) (fun s=>T.self _ 0 s) (hW _ (I2.hok.fresh (yO _))) (hg _ _ _ _ _ _) (fun pI s6 σ6 H6 R I6 q6=>uA (he _ _ _ _ _ _ pI s6 σ6 H6 R I6 q6) (fun _ _ z=>z) fun _ _ z=>z.elim) fun i σ3 H3 s3 I3 fk st3 z=>?_;refine thn (T.done (blk X sc cl (s2.heap.objs.size+1) N' s2 H1 fp pins) rfl rfl rfl hc i [] s3 σ3 H3 _ I3 fk st3 z.1) fun r s4 h=>⟨h.1,Qv I2 f2 h.2 z.2⟩
end
end L2
namespace L2
open PySem
open AutoSeq1 (wpAny_loadPart')
variable{l:Addr}{Q:uT->uS->Prop}
section
variable {prog:uE}{w:uw}{A:uq}{E:uT->uS->Prop}{s:uS}
theorem Jr {it:Addr}{i:Nat}{items}{x:uT}(hit:s.heap.IsTupleIter it l i)
  (hl:s.heap.IsTuple l items) (hx:items[i]?=some x)
  (hQ:∀ h',h'.IsTupleIter it l (i+1)->xb it s.heap h'->Q x { s with heap:=h' }) :
  uP (uM prog w) A (uo (.ref it)) Q E s:=by
 obtain⟨o,ho,hc,hd⟩:=id hit;obtain⟨ol,hol,_,nl,js⟩:=hl;unfold uo;refine uV (ua (name:=uU "__next__") hit.typeIs F.slot_tuple_iterator_next
  (tW F.slot_tuple_iterator_next hit.typeIs F.entry_tuple_iterator_next ?_ (F.args_tuple_iterator_next_1 _)))
 show uP _ _ (rH (.ref it) 0 >>= _) _ _ s;refine uV (um ho hd (x:=.ref l) rfl ?_);show uP _ _ (if (uI l==uk)=true then _ else _) _ _ s;rw[uL (show ¬ ((uI l==uk)=true) from yC)];show uP _ _ (rH (.ref it) 1 >>= _) _ _ s;refine uV (um ho hd (x:=.int i 0) rfl ?_);show uP _ _ (rz (.ref l) >>= _) _ _ s;refine uV (ue hol js ?_);simp only[yh,hx];refine uV (tD ho hd (by simp) (uQ ⟨x,rfl,uQ (hQ _ ?_ (tq ..))⟩));exact⟨_,xW _ ho (sX (tT hd _)),(qw ..).trans hc,by
  rw[tT hd];simp[sW]⟩
theorem Jq {it:Addr}{i:Nat}{items}{Q:uT->uS->Prop}(hh:A.handled=none)
  (hit:s.heap.IsTupleIter it l i) (hl:s.heap.IsTuple l items) (hx:items[i]?=none)
  (hE:∀ h' e,Heap.ExtBut it s.heap h'->(∃ o,h'.get? e=some o/\o.cls=.type "StopIteration")->E (.ref e) { s with heap:=h' }) :
  uP (uM prog w) A (uo (.ref it)) Q E s:=by
 obtain⟨o,ho,hc,hd⟩:=id hit;obtain⟨ol,hol,_,nl,js⟩:=hl;unfold uo;refine uV (ua (name:=uU "__next__") hit.typeIs F.slot_tuple_iterator_next
  (tW F.slot_tuple_iterator_next hit.typeIs F.entry_tuple_iterator_next ?_ (F.args_tuple_iterator_next_1 _)))
 show uP _ _ (rH (.ref it) 0 >>= _) _ _ s;refine uV (um ho hd (x:=.ref l) rfl ?_);show uP _ _ (if (uI l==uk)=true then _ else _) _ _ s;rw[uL (show ¬ ((uI l==uk)=true) from yC)];show uP _ _ (rH (.ref it) 1 >>= _) _ _ s;refine uV (um ho hd (x:=.int i 0) rfl ?_);show uP _ _ (rz (.ref l) >>= _) _ _ s;refine uV (ue hol js ?_);simp only[yh,hx];refine uV (rm (uV (tD ho hd (by simp) ?_)));show uP _ _ (newExc (.type "StopIteration") [] >>= _) _ _ _;refine uV ?_;simp only[newExc,newTuple];refine uV (tZ ?_ (by size_fits));refine uV (m:=rY _ _) (pR (a:=uk) (by first|rfl|(simp only[rY];rfl)) ?_);refine tZ ?_ (by size_fits);simp only[raiseNew];refine uV (wpAny_handled ?_)
 first|rw[show A.in1.handled=none from hh]|rw[hh]
 refine uV (uQ (pQ ?_));exact hE _ _ (((tq ..).extBut.push _).push _) ⟨_,yN _ rfl,rfl⟩
end
variable{prog:uE}{w:uw}{A:uq}
theorem IQ (hh:A.handled=none)(it l:Addr)(pC:l≠it)(items:Array uT) :
  Draws prog w A it [it,l] items.size (fun i v=>items[i]?=some v) (fun i h=>h.IsTupleIter it l i/\h.IsTuple l items) where
 live:=fun _ _ st=>let ⟨⟨o,ho,_⟩,_⟩:=st;⟨o,ho⟩
 frame:=fun _ _ _ st hk=>⟨let ⟨o,ho,r⟩:=st.1;⟨o,hk it (by simp) o ho,r⟩,let ⟨o,ho,r⟩:=st.2;⟨o,hk l (by simp) o ho,r⟩⟩
 item:=fun i s Q E hi st hQ=>by
  refine Jr st.1 st.2 (x:=items[i]) (by simp[hi]) fun h' hit' oG=>?_;exact hQ _ h' s.toks (by simp[hi]) ⟨hit',let ⟨o,ho,r⟩:=st.2;⟨o,(oG.2 l pC).trans ho,r⟩⟩ oG
 done:=fun s Q E st hE=>Jq hh st.1 st.2 (by simp) hE
theorem Jt (l:Addr)(items:Array uT)(o:Obj)(hc:o.cls=.type "tuple")(n:Nat)(hd:o.data=.seq items n) :
  Meets (sG.«enumerate.__new__» ⟨[.type "enumerate",.ref l],[]⟩) (fun _ R s=>s.heap.get? l=some o/\
   R (.ok (.ret (.ref (s.heap.push { cls:=.type "tuple_iterator",data:=.fields #[.ref l,.int 0 0] }).objs.size)))
    { s with heap:=(s.heap.push { cls:=.type "tuple_iterator",data:=.fields #[.ref l,.int 0 0] }).push { cls:=.type "enumerate",data:=.fields #[.none,.bool false,.ref s.heap.objs.size,sW 0,.none,.none] } }):=
 .of_wp fun prog w A R s h=>by
  obtain⟨hp,g,d,tk,os⟩:=s;obtain⟨hl,h⟩:=h;have hsub:=sub_enumerate;have hL:Heap.IsTuple (Shared.heap ⟨hp,g,d,tk,os⟩) l items:=⟨_,hl,hc,n,hd⟩
  wp_walk using rP hl
  refine wpAny_stack_any fun st=>uQ ?_;split
  ·rename_i c _ _ _ _ _;cases (c==tP "enumerate")
   wp_walk using rP hl,rV hL
   exact⟨_,Z,h⟩
   wp_walk using rP hl,rV hL
   exact⟨_,Z,h⟩
  wp_walk using rP hl,rV hL
  exact⟨_,Z,h⟩
variable{s:uS}
theorem Js {prog:uE}{w:uw}{A:uq}{E:uT->uS->Prop}{items:Array uT}(hL:s.heap.IsTuple l items)
  (h:∀ h',IsEnum h' (s.heap.objs.size+1) s.heap.objs.size 0 .none->h'.IsTupleIter s.heap.objs.size l 0->h'.objs.size=s.heap.objs.size+2->
   (∀ b o,s.heap.get? b=some o->h'.get? b=some o)->Q (.ref (s.heap.objs.size+1)) { s with heap:=h' }) :
  uP (uM prog w) A (call (.type "enumerate") [.ref l]) Q E s:=by
 obtain⟨o,hl,hc,n,hd⟩:=hL;refine callType_new F.called_enumerate (by decide) (F.typeCall_enumerate_1 _) (F.newCall_enumerate_1 _) (fun obj=>F.args_object_init_2 obj _) F.entry_enumerate_new
  (Jt l items o hc n hd) ⟨hl,?_⟩
 have hz:(s.heap.push { cls:=.type "tuple_iterator",data:=.fields #[.ref l,.int 0 0] }).objs.size=s.heap.objs.size+1:=xV ..;show _/\_;rw[hz];have he:IsEnum ((s.heap.push { cls:=.type "tuple_iterator",data:=.fields #[.ref l,.int 0 0] }).push
   { cls:=.type "enumerate",data:=.fields #[.none,.bool false,.ref s.heap.objs.size,sW 0,.none,.none] }) (s.heap.objs.size+1) s.heap.objs.size 0 .none:=by
  have:=yN (s.heap.push { cls:=.type "tuple_iterator",data:=.fields #[.ref l,.int 0 0] })
   (o:={ cls:=.type "enumerate",data:=.fields #[.none,.bool false,.ref s.heap.objs.size,sW 0,.none,.none] }) rfl
  rw[hz]at this;exact this
 refine⟨⟨_,he,Z⟩,h _ he ⟨_,yQ _ (yN _ Z),Z,Z⟩ (by rw[xV,hz]) fun b o x=>yQ _ (yQ _ x)⟩
end L2
namespace L2
open PySem PySem.Spec PyProof.Rows
section
variable {X:Cx}
theorem Th:Y7 X (.builtin "isinstance") (fun xs H Q=>∃ x c t b,xs=[x,.ty c]/\X9 X.K H x t/\yp X.K t (.type c)=some b/\Q (.bl b) H):=by
 intro pins s σ H xs us Q I r h;obtain⟨x,c,t,b,rfl,ty,e,q⟩:=h;obtain⟨u,w',rfl,ru,rc⟩:=TN r;obtain rfl:w'=tP c:=rc;exact HK I ru ty e fun tk=>⟨.bl b,H,I.tok _,rfl,q⟩
end
theorem Og (K:yS):yp K (.type "int") (.type "int")=some true:=by kernel_rfl
theorem Om (K:yS):yp K (.type "int") (.type "bool")=some false:=by kernel_rfl
mutual
inductive Dt (K:yS) (H:Hp):V->rK->Prop
 | non:Dt K H .non .none
 | bl (b:Bool):Dt K H (.bl b) (.bool b)
 | int (i:Int):Dt K H (.int i) (.int i)
 | str (x:Str):Dt K H (.str x) (.str x)
 | lst {a:Addr} {xs:List V} {ds:List rK}:SqL K H a xs->XM K H xs ds->Dt K H (.ref a) (.list ds)
 | tup {a:Addr} {xs:List V} {ds:List rK}:SqT K H a xs->XM K H xs ds->Dt K H (.ref a) (.tuple ds)
inductive XM (K:yS) (H:Hp):List V->List rK->Prop
 | nil:XM K H [] []
 | cons {x:V} {d:rK} {xs:List V} {ds:List rK}:Dt K H x d->XM K H xs ds->XM K H (x::xs) (d::ds)
end
section
variable {X:Cx}{pins:List (Addr×Obj)}{σ:St}{H:Hp}{s:uS}
mutual
theorem Dt.reads (I:Inv X pins σ H s):∀ {x:V} {d:rK} {u:uT},Dt X.K H x d->ZS x u->∃ as,sN s.heap u d as
 | _,_,_,.non,r=>by obtain rfl:=(show _=uk from r);exact⟨_,.none⟩
 | _,_,_,.bl b,r=>by obtain rfl:=(show _=tj b from r);exact⟨_,.bool b⟩
 | _,_,_,.int i,r=>by obtain⟨t,rfl⟩:=r;exact⟨_,.int i t⟩
 | _,_,_,.str x,r=>by obtain⟨t,rfl⟩:=r;exact⟨_,.str x t⟩
 | _,_,_,@Dt.lst _ _ a xs ds hq ha,r=>by
  obtain rfl:=(show _=uI a from r);obtain⟨pL,rv,⟨o,n,h1,h2,h3,h4⟩,hz⟩:=I.list hq;obtain⟨as,ra⟩:=XM.reads I ha rv;exact⟨_,.list h1 h2 h4 (by simpa using ra)⟩
 | _,_,_,@Dt.tup _ _ a xs ds hq ha,r=>by
  obtain rfl:=(show _=uI a from r);obtain⟨pL,rv,⟨o,h1,h2,n,h3⟩,hz⟩:=I.tuple hq;obtain⟨as,ra⟩:=XM.reads I ha rv;exact⟨_,.tuple h1 h2 h3 (by simpa using ra)⟩
theorem XM.reads (I:Inv X pins σ H s):∀ {xs:List V} {ds:List rK} {us:List uT},XM X.K H xs ds->ZX xs us->∃ as,ReadsAll s.heap us ds as
 | _,_,_,.nil,r=>by cases r;exact⟨_,.nil⟩
 | _,_,_,.cons h t,r=>by
  cases r with
  | cons r rr=>
   obtain⟨a1,h1⟩:=Dt.reads I h r;obtain⟨a2,h2⟩:=XM.reads I t rr;exact⟨_,.cons h1 h2⟩
end
def rEqD (K:yS)(A:uq)(neg:Bool):R2:=fun x y H Q=>∃ d e,Dt K H x d/\Dt K H y e/\d.canLay0=true/\e.canLay0=true/\A.units+min d.depth e.depth<tO/\Q (.bl (if neg then !PyData.eqv d e else sZ d e)) H
theorem Ko:OpR X (tV .NotEq) (rEqD X.K X.A true):=by
 intro pins s σ H x y v u Q I rx ry h;obtain⟨d,e,hd,he,c1,c2,hu,q⟩:=h;obtain⟨as,ra⟩:=Dt.reads I hd rx;obtain⟨bs,rb⟩:=Dt.reads I he ry;exact SeqAt.compareNe_reads ra rb c1 c2 hu ⟨.bl _,H,I,rfl,q⟩
end
noncomputable def nv (xs:List Nat):List V:=xs.map fun (n:Nat)=>V.int (n:Int)
noncomputable def nd (xs:List Nat):List rK:=xs.map fun (n:Nat)=>PyData.int (n:Int)
theorem Zs (xs:List Nat):(nv xs).length=xs.length:=by simp[nv]
theorem Zd {xs:List Nat}{i:Nat}{x:Nat}(h:xs[i]?=some x):(nv xs)[i]?=some (.int (x:Int)):=by simp[nv,h]
theorem Uy {xs:List Nat}{i:Nat}{v:V}(h:(nv xs)[i]?=some v):∃ x,xs[i]?=some x/\v=.int (x:Int):=by
 rw[nv,yw]at h;cases e:xs[i]? with
 | none=>rw[e]at h;cases h
 | some x=>rw[e]at h;exact⟨x,Z,(uz.inj h).symm⟩
theorem Qa (xs:List Nat)(x:Nat):nv xs++[.int (x:Int)]=nv (xs++[x]):=by simp[nv]
theorem RQ {xs ys:List Nat}(h:nv xs=nv ys):xs=ys:=by
 unfold nv at h
 induction xs generalizing ys with
 | nil=>cases ys with
  | nil=>rfl
  | cons y ys=>simp at h
 | cons x xs ih=>cases ys with
  | nil=>simp at h
  | cons y ys=>
   simp only[ye,qd.injEq,V.int.injEq]at h;rw[ih h.2,Int.ofNat.inj (show Int.ofNat x=Int.ofNat y from h.1)]
theorem RG {K:yS}{H:Hp}:∀ xs:List Nat,XM K H (nv xs) (nd xs)
 | []=>.nil
 | x::xs=>.cons (.int _) (RG xs)
theorem Xh:∀ xs:List Nat,qv (nd xs)=true
 | []=>rfl
 | x::xs=>by show (PyData.canLay0 (PyData.int _)&&qv (nd xs))=true;rw[Xh xs];rfl
theorem Ve:∀ xs ys:List Nat,PyData.eqvAll (nd xs) (nd ys)=decide (xs=ys)
 | [],[]=>rfl
 | [],y::ys=>rfl
 | x::xs,[]=>rfl
 | x::xs,y::ys=>by
  show (((x:Int)==(y:Int))&&PyData.eqvAll (nd xs) (nd ys))=_;rw[Ve xs ys];by_cases e:x=y;subst e;by_cases e':xs=ys<;>simp[e'];have:((x:Int)==(y:Int))=false:=by simpa using fun h:(x:Int)=y=>e (by lia)
  simp[this,e]
noncomputable def sd (r u:List Nat):rK:=.tuple [.tuple (nd r),.tuple (nd u)]
theorem PF (r u r' u':List Nat):sZ (sd r u) (sd r' u')=(decide (r=r')&&decide (u=u')):=by
 show (PyData.eqvAll (nd r) (nd r')&&(PyData.eqvAll (nd u) (nd u')&&true))=_;rw[Ve,Ve,Bool.and_true]
theorem Vh (r u:List Nat):(sd r u).canLay0=true:=by
 show (qv (nd r)&&(qv (nd u)&&true))=true;rw[Xh,Xh];rfl
def ZV (H:Hp)(a:Addr)(r u:List Nat):Prop:=∃ p q,H a=some (.tup [.ref p,.ref q])/\H p=some (.tup (nv r))/\H q=some (.tup (nv u))
theorem ZV.dt {K:yS}{H:Hp}{a:Addr}{r u:List Nat}(h:ZV H a r u):Dt K H (.ref a) (sd r u):=by
 obtain⟨p,q,h1,h2,h3⟩:=h;exact .tup (SqT.of h1) (.cons (.tup (SqT.of h2) (RG r)) (.cons (.tup (SqT.of h3) (RG u)) .nil))
theorem ZV.same {H H':Hp}{a:Addr}{r u:List Nat}(e:Z8 H H')(h:ZV H a r u):ZV H' a r u:=by
 obtain⟨p,q,h1,h2,h3⟩:=h;exact⟨p,q,e _ _ h1,e _ _ h2,e _ _ h3⟩
theorem Bz:isSubtype (.type "tuple") (.type "set")=pure false:=by rw[isSubtype_type];kernel_rfl
theorem Cm:isSubtype (.type "tuple") (.type "frozenset")=pure false:=by rw[isSubtype_type];kernel_rfl
section
variable {prog:uE}{w:uw}{A:uq}{E:uT->uS->Prop}{s:uS}
noncomputable abbrev WJ (led:Bool):Obj:={ cls:=.type "set",dict:=none,data:=.set #[] 0 (.fresh 0 0 led) }
def P4 (prog:uE)(w:uw)(s:uS)(ns:List Int)(n:Nat)(s':uS):Prop:=∃ h' tk,s'={ s with heap:=h',toks:=tk }/\
 h'.SetOf (intKind prog w) s.heap.objs.size (fun k'=>(qS (fun i=>ns.getD i 0) n).any (· == k')) (qS (fun i=>ns.getD i 0) n).length/\
 ∀ b o,b<s.heap.objs.size->s.heap.get? b=some o->h'.get? b=some o
set_option maxHeartbeats 3200000 in
theorem Jc {l:Addr}{items:Array uT}{ns:List Int}{led:Bool}(hh:A.handled=none)(hl:s.heap.IsTuple l items)(hi:tE items.toList ns)(hb:items.size+1<pM) :
  uP (uM prog w) A (sG.«set.__init__» ⟨[.ref s.heap.objs.size,.ref l],[]⟩) (fun fin s₂=>fin=.done (.ret .none)/\P4 prog w s ns items.size s₂) E { s with heap:=s.heap.push (WJ led) }:=by
 have hS:(s.heap.push (WJ led)).get? s.heap.objs.size=some (WJ led):=yN _ rfl;obtain⟨ol,hol,hcl,nl,js⟩:=hl;obtain⟨oc,od,oda,oR⟩:=ol;simp only at hcl js;subst hcl;subst js;have cC:=yQ (WJ led) hol;have q1:=Bz;have q2:=Cm;have q3:(tP "tuple" == tP "dict")=false:=by decide
 have mh:(s.heap.push (WJ led)).IsTuple l items:=⟨_,cC,rfl,nl,rfl⟩;have hlS:l<s.heap.objs.size:=yM hol;unfold sG.«set.__init__» noKeywords Builtin.Frozenset.updateFrom;generalize hPI:pyIter=PI
 wp_walk
 subst hPI;refine rV mh (uV (wpAny_runValue ?_));have hz:(s.heap.push (WJ led)).objs.size=s.heap.objs.size+1:=xV ..;rw[hz];refine codeAny_set_update_loopS ((Walks.tuple (by simp[hh]) (s.heap.objs.size+1) l (yv (xZ hlS)) items).toS) s.heap.objs.size (fun hm=>(yl.mp hm).elim (yv (xr _)) fun hm=>w9 hlS (yH.mp hm)) (fun i=>ns.getD i 0) (fun i v hv=>IntsAre.int_at hi i v (by rw[vN];exact hv)) hb (items.size-0) 0 _ (by omega) (xY _)
  ⟨⟨_,hz ▸ yN _ rfl,rfl,rfl⟩,⟨_,yQ _ cC,rfl,nl,rfl⟩⟩ ?_ ?_
 exact SetOf_congr ((setObjOf_fresh (knd:=intKind prog w) led).setOf (yQ _ hS) (by unfold pM;omega)) (fun _=>rfl) rfl;intro s' hm jn;obtain⟨h',g',d',tk',os'⟩:=s';have eg:g'=s.gens:=hm.gens;have ed:d'=s.drawn:=hm.drawn;have eo:os'=s.os:=hm.os;subst eg;subst ed;subst eo;show uP _ _ _ _ _ _;refine uQ ?_;show uP _ _ (ret uk) _ _ _;refine uQ ⟨rfl,h',tk',rfl,jn,fun b o pJ e=>?_⟩;exact hm.heap b o (fun q=>(yl.mp q).elim (yv pJ) fun q=>yv (xZ pJ) (yH.mp q)) (yQ _ (yQ _ e))
theorem IZ {l:Addr}{items:Array uT}{ns:List Int}{Q:uT->uS->Prop}(hh:A.handled=none)(hl:s.heap.IsTuple l items)(hi:tE items.toList ns)(hb:items.size+1<pM)
  (h:∀ s',P4 prog w s ns items.size s'->Q (.ref s.heap.objs.size) s'):uP (uM prog w) A (call (.type "set") [.ref l]) Q E s:=by
 have m0:=F.called_set.mro;obtain⟨c,tl,m1⟩:=m0;have m2:=F.called_set.made;have m3:=F.called_set.sub;have m4:=F.called_set.notType;have m5:=F.called_set.canCreate;have m6:=F.typeCall_set_1 (.ref l);refine rN (codeAny_of_tree (show uP _ _ (callAny (.type "set") _) _ _ _ from ?_));refine uQ ⟨qE _ (by decide +kernel),sD F.entry_type_call ?_⟩;rw[Around.under_plain (weight_type_call_type "set" [.ref l] []) rfl]
 repeat (any_goals (first|assumption|wp_step))
 refine rT (code_set_new_1 (.ref l) (E:=E) (Q₁:=fun obj s₁=>∃ led:Bool,obj=.ref s.heap.objs.size/\s₁={ s with heap:=s.heap.push (WJ led) }) fun led=>⟨led,rfl,rfl⟩) fun r s₁ hr=>?_
 match r,hr with
 | .error e,hr=>exact hr
 | .ok .next,hr=>exact hr.elim
 | .ok .brk,hr=>exact hr.elim
 | .ok .cont,hr=>exact hr.elim
 | .ok (.ret obj),hr=>
  obtain⟨led,rfl,rfl⟩:=hr;have hT:Shared.TypeIs { s with heap:=s.heap.push (WJ led) } (.ref s.heap.objs.size) "set":=⟨_,yN _ rfl,rfl⟩;have m7:=F.called_set.init.lookup;have m8:=F.called_set.init.bind (.ref s.heap.objs.size)
  repeat (any_goals (first|assumption|wp_step))
  refine rT (qR (R:=wants (fun r s₂=>r=.none/\P4 prog w s ns items.size s₂) E) F.called_set.init.plain F.entry_set_init (check_set_init_1 hT ?_)) fun r₂ s₂ oZ=>?_;refine uA (Jc (by simp[hh]) hl hi hb) (fun fin s₂ ⟨e,q⟩=>?_) fun e s₂ q=>q;subst e;exact⟨Z,q⟩
  ·match r₂,oZ with
   | .error e,oZ=>exact oZ
   | .ok .next,oZ=>exact oZ.elim
   | .ok .brk,oZ=>exact oZ.elim
   | .ok .cont,oZ=>exact oZ.elim
   | .ok (.ret r),oZ=>
    obtain⟨rfl,q⟩:=oZ
    repeat (any_goals (first|assumption|wp_step))
    exact h _ q
theorem IL {l:Addr}{vs:List uT}{Q:List uT->uS->Prop}(hl:s.heap.IsTuple l vs.toArray)(hz:vs.length<=uR)
  (h:∀ h',(∀ b o,s.heap.get? b=some o->h'.get? b=some o)->Q vs { s with heap:=h' }):uP (uM prog w) A (collect (.ref l)) Q E s:=by
 obtain⟨o,ho,hc,n,hd⟩:=hl;unfold collect;refine uV (wpAny_runValue (sD entry_proto_collect' ?_));show uP _ _ (do again (.builtin "list.__iadd__" ⟨[<-newList [],.ref l],[]⟩)) _ _ s;refine uV (wpAny_newList (uQ ⟨qE _ (by decide +kernel),sD entry_list_iadd' ?_⟩));have oH:(s.heap.push (seqObj "list" #[] 0)).get? l=some o:=yQ _ ho;show uP _ _ (Builtin.List.listExtendWith (.ref s.heap.objs.size) (.ref l) (.ref s.heap.objs.size)) _ _ { s with heap:=s.heap.push (seqObj "list" #[] 0) };unfold Builtin.List.listExtendWith;refine uV (wpAny_typeOf (T:="tuple") ⟨o,oH,hc⟩ ?_);rw[uK (show (Builtin.List.listSameRef (.ref s.heap.objs.size) (.ref l)||tP "tuple" == tP "list" || tP "tuple" == tP "tuple")=true by
  rw[show (tP "tuple" == tP "tuple")=true from rfl,Bool.or_true])]
 refine uV (sQ oH hd (uV (sQ (xs:=#[]) (n:=0) (yN _ rfl) rfl ?_)));rw[uL (by simp)];refine uV (listUpdate_at (xs:=#[]) (n:=0) (yN _ rfl) rfl ?_ (xY _) (by show (#[]++vs.toArray).size<=uR+1;simp;omega));refine uQ ?_;refine uV (wpAny_load (get?_update_seq (yN _ rfl) _) ?_);show uP _ _ (pure ((#[]:Array uT)++vs.toArray).toList) Q E _;rw[show ((#[]:Array uT)++vs.toArray).toList=vs by simp];exact uQ (h _ fun b o e=>(yj _ _ (w9 (yM e))).trans (yQ _ e))
theorem GH {x:uT}{vs:List uT}{ns:List Int}{Q:uT->uS->Prop}(hI:tE vs ns)(h64:vs.length<64)
  (gg:∀ (A:uq) (R:List uT->uS->Prop),A.handled=none->(∀ vs kI h' tk,tE vs kI->kI=ns->(∀ b o,s.heap.get? b=some o->h'.get? b=some o)->R vs { s with heap:=h',toks:=tk })->uP (uM prog w) A (collect x) R E s)
  (hh:A.handled=none)
  (h:∀ (h1 h2:Heap) (tk e:Nat) (out:Array uT) (kI:List Int),tE out.toList kI->kI.Perm ns->kI.Pairwise (·<=·)->(∀ b o,s.heap.get? b=some o->h1.get? b=some o)->h2.get? h1.objs.size=some (seqObj "list" out e)->
   (∀ b o,h1.get? b=some o->h2.get? b=some o)->Q (.ref h1.objs.size) { s with heap:=h2,toks:=tk }) :
  uP (uM prog w) A (call (.builtin "sorted") [x]) Q E s:=by
 refine Calls.call_function_entry kind_sorted plain_sorted entry_sorted (args_sorted1 _) ?_;unfold sG.«sorted»;refine uV (m:=checkCount "sorted" 1 1 _) (uQ ?_);refine uV (gg _ _ (by simp[hh]) fun vs ms h' tk hI' e hk=>?_);subst e;have hl:vs.length<64:=by rw[hI'.length,<-hI.length];exact h64
 refine uV (wpAny_newList ?_);refine uV (sk (tW slot_list_sort ⟨_,yN _ rfl,rfl⟩ entry_list_sort (list_sort_tree (yN _ rfl) hI' hl fun out kI a1 a2 a3=>⟨_,rfl,?_⟩) (args_list_sort _)));obtain⟨e,he⟩:=sortedHeap_at (out:=out) (n:=0) (show (h'.push (seqObj "list" vs.toArray 0)).get? h'.objs.size=some (seqObj "list" vs.toArray 0) from yN _ rfl);have old:∀ b o,h'.get? b=some o->(sortedHeap (h'.push (seqObj "list" vs.toArray 0)) h'.objs.size vs out).get? b=some o:=fun b o q1=>by
  have q2:=yM q1;rw[sortedHeap_old (yv q2) (by rw[xV];exact xZ q2)];exact yQ _ q1
 exact uQ ⟨_,rfl,h _ _ _ _ out kI a1 a2 a3 hk he old⟩
end
section
variable {X:Cx}{pins:List (Addr×Obj)}{σ:St}{H:Hp}{s:uS}
theorem Inv.turnLaid {fp:List Addr}{T:Addr}{o:HO}{h':Heap}{t':Nat}(I:Inv X pins σ H s)(hf:∀ b∈fp,Y1 X pins H b)(hT:s.heap.objs.size<=T)
  (k:∀ b ob,b∉fp->s.heap.get? b=some ob->h'.get? b=some ob) (new:ZC X.prog X.w (upd H T o) h' T o):Inv X pins σ (upd H T o) { s with heap:=h',toks:=t' }:=by
 have hn:H T=none:=I.hok.fresh hT;have neT:∀ b ob,s.heap.get? b=some ob->b≠T:=fun b ob e=>yv (yz (yM e) hT);have lF:∀ b u,H b=some u->b∉fp:=fun b u e hb=>by rw[(hf b hb).1]at e;cases e
 refine I.step (g':=s.gens) (d':=s.drawn) (ch:=fp) (fun b hb=>⟨(hf b hb).2.2.2.1,(hf b hb).2.1,(hf b hb).2.2.2.2.1,(hf b hb).2.2.2.2.2⟩) (fun b ob _ _ hc e _=>k b ob hc e) (fun b ob _ _ hc e _=>⟨ob.slots,k b ob hc e⟩)
  (fun b ob _ e n=>by rw[Z5 (neT b ob e)];exact n) (fun b ob hc e=>⟨ob,k b ob hc e⟩) (fun b xs e=>by rw[Z5 (ZJ e hn)];exact e) (fun b ob u e=>by rw[Z5 (ZJ e hn)];exact e)
  (fun b ps e=>⟨#[],by rw[Z5 (ZJ e hn),e];simp⟩) (fun m hm=>?_) (fun b u e=>?_) I.bare
 obtain⟨ob,es,ep,ho,r⟩:=hm;exact⟨ob,es,ep,k _ ob (fun hb=>(hf _ hb).2.1 Z) ho,r⟩;by_cases hb:b=T;subst hb;rw[Z0]at e;cases e;exact new;rw[Z5 hb]at e;refine (I.hok b u e).stay (fun c v hc q=>k c v ?_ q) (fun c q=>by rw[Z5 (ZJ q hn)];exact q) fun c xs q=>by rw[Z5 (ZJ q hn)];exact q
 rcases hc with z|z;rw[z];exact lF b u e;exact lF c _ z
theorem Inv.turnedL {fp:List Addr}{h':Heap}{t':Nat}(I:Inv X pins σ H s)(hf:∀ b∈fp,Y1 X pins H b)(k:∀ b ob,b∉fp->s.heap.get? b=some ob->h'.get? b=some ob):Inv X pins σ H { s with heap:=h',toks:=t' }:=by
 have lF:∀ b u,H b=some u->b∉fp:=fun b u e hb=>by rw[(hf b hb).1]at e;cases e
 refine I.step (g':=s.gens) (d':=s.drawn) (ch:=fp) (fun b hb=>⟨(hf b hb).2.2.2.1,(hf b hb).2.1,(hf b hb).2.2.2.2.1,(hf b hb).2.2.2.2.2⟩) (fun b ob _ _ hc e _=>k b ob hc e) (fun b ob _ _ hc e _=>⟨ob.slots,k b ob hc e⟩)
  (fun _ _ _ _ n=>n) (fun b ob hc e=>⟨ob,k b ob hc e⟩) (fun _ _ e=>e) (fun _ _ _ e=>e) (fun b ps e=>⟨#[],by rw[e];simp⟩) (fun m hm=>?_) (fun b u e=>?_) I.bare
 obtain⟨ob,es,ep,ho,r⟩:=hm;exact⟨ob,es,ep,k _ ob (fun hb=>(hf _ hb).2.1 Z) ho,r⟩;refine (I.hok b u e).stay (fun c v hc q=>k c v ?_ q) (fun _ q=>q) fun _ _ q=>q;rcases hc with z|z;rw[z];exact lF b u e;exact lF c _ z
end
noncomputable def Ya (T:Addr)(xs:List V):HO:=.ext fun h=>xs.length<=uR/\∃ pL:List uT,ZX xs pL/\IsTup h T pL.toArray
theorem Lr {P:uE}{w:uw}{H:Hp}{h:Heap}{T:Addr}{xs:List V}(q:xs.length<=uR/\∃ pL:List uT,ZX xs pL/\IsTup h T pL.toArray):ZC P w H h T (Ya T xs):=by
 obtain⟨z,pL,r,o,e,c⟩:=id q;exact⟨q,⟨o,e⟩,fun h1 h2 ⟨z',its',r',o',e',c'⟩ k=>⟨z',its',r',o',k _ e',c'⟩⟩
def yU (n:Nat)(t:TGs):TG:=fun v σ H Q=>∃ a xs,v=.ref a/\H a=some (Ya a xs)/\xs.length=n/\t xs σ H Q
theorem R7 {es:List Expr}{k:Nat}{t:TGs}{n:Nat}{pos:Pos}(hc:X.calm=true)(h:PGs X es t)
  (hn:(qU es X.env).length=n:=by rfl) (oK:(qU es X.env).findIdx? (·.1)=none:=by rfl):PG X (.Tuple es k pos) (yU n t):=by
 intro pins s σ H v u Q I r hw;obtain⟨a,xs,e1,hq,hl,hw⟩:=hw;subst e1;cases r;obtain⟨⟨hz,pL,rv,ht⟩,_⟩:=I.hok a _ hq;refine assign_Tuple_tuple (I.ok.hd hc) ht (by simp[hn,<-hl,rv.length]) oK fun h' hx=>?_;have I1:Inv X pins σ H { s with heap:=h' }:=I.kept (t':=s.toks) fun b o e=>hx b o (yv (yM e)) e;exact h pins _ σ H xs _ Q I1 (by simpa using rv) hw
def VX (sq:Hp->List V->Prop):It:=
 ⟨fun i H=>∃ xs x,sq H xs/\xs[i]?=some x,fun i H x H'=>∃ T y,H T=none/\x=.ref T/\(∀ xs,sq H xs->xs[i]?=some y)/\H'=upd H T (Ya T [.int (i:Int),y]),fun i H=>∃ xs,sq H xs/\xs.length=i⟩
theorem RU {h:Heap}{a b:Addr}{o u:Obj}(h1:h.get? a=some o)(h2:h.get? b=some u)(d:o.cls≠u.cls):a≠b:=by
 intro e;subst e;rw[h1]at h2;cases h2;exact d rfl
theorem NG {P:uE}{w:uw}{K:yS}{elts:List Expr}{k:Nat}{pos:Pos}(sq:Hp->List V->Prop)(isq:Heap->Array uT->Prop)(lC:Nat->Heap->Prop)(e it:Addr)
  (obj:∀ i h,lC i h->∃ o,h.get? it=some o/\∀ v,o.data≠.cell v) (keep:∀ i h h',lC i h->(∀ o,h.get? it=some o->h'.get? it=some o)->lC i h')
  (rd:∀ (X:Cx) (pins:List (Addr×Obj)) (σ:St) (H:Hp) (s:uS) (xs:List V),X.K=K->Inv X pins σ H s->sq H xs->(∃ pL:List uT,ZX xs pL/\isq s.heap pL.toArray)/\∀ ys,sq H ys->ys=xs)
  (W:∀ (A:uq) (items:Array uT) (h:Heap) (i:Nat),A.handled=none->isq h items->lC i h->(∃ old,IsEnum h e it i old)->∃ fp Mid,WalksT P w A e fp [e,it] items.size (fun i vals=>∃ t x,items[i]?=some x/\vals=#[.int (i:Int) t,x])
   (fun i h=>(∃ old,IsEnum h e it i old)/\lC i h/\isq h items) Mid) :
  Wv P w K (.Tuple elts k pos) (VX sq) [e,it] e (fun i h=>(∃ old,IsEnum h e it i old)/\lC i h) where
 mem:=by simp
 obj:=fun i h st b hb=>by
  obtain⟨⟨old,he⟩,q⟩:=st;rcases yl.mp hb with rfl|hb;exact⟨_,he,fun v z=>nomatch z⟩;rw[yH.mp hb];exact obj i h q
 keep:=fun i h h' st kp=>⟨let ⟨old,he⟩:=st.1;⟨old,kp e (by simp) _ he⟩,keep i h h' st.2 fun o q=>kp it (by simp) o q⟩
 item:=by
  intro X hP hw hK hc i pins s σ H E I hf st hg;subst hP hw;obtain⟨xs,x,hq,hx⟩:=hg;obtain⟨⟨pL,rv,hL⟩,inj⟩:=rd X pins σ H s xs hK I hq;obtain⟨old,he⟩:=id st.1;obtain⟨oi,hoi,_⟩:=obj _ _ st.2;have pJ:i<pL.toArray.size:=by
   have:=(yP.mp hx).1;rw[rv.length]at this;simpa using this
  obtain⟨fp,Mid,W⟩:=W X.A pL.toArray s.heap i (I.ok.hd hc) hL st.2 st.1;refine W.item i s _ E pJ ⟨st.1,st.2,hL⟩ fun T vals h' tk hPt hT i9 bM hk=>⟨.ref T,rfl,?_⟩;refine W.go elts k pos i T _ _ E bM fun md hSt i5=>?_;obtain⟨t,y',mI,rfl⟩:=hPt;obtain⟨u,hu,ry⟩:=rv.get hx;have e1:y'=u:=by
   have:pL[i]?=some y':=by simpa using mI
   rw[hu]at this;exact (uz.inj this).symm
  subst e1;have j8:IsTup md T #[.int (i:Int) t,y']:=by
   obtain⟨o,q1,q2⟩:=i9;exact⟨o,i5 T o (W.apart _ _ _ bM) q1,q2⟩
  refine⟨.ref T,upd H T (Ya T [.int (i:Int),x]),?_,Z,⟨T,x,I.hok.fresh hT,Z,fun zs cH=>by rw[inj zs cH];exact hx,Z⟩,⟨hSt.1,hSt.2.1⟩,fun b hb=>?_⟩;exact I.turnLaid (s:=s) (h':=md) (t':=tk) hf hT (fun b ob hb q=>i5 b ob hb (hk b ob hb q)) (Lr ⟨by show 2<=uR;decide,[.int (i:Int) t,y'],.cons ⟨t,rfl⟩ (.cons ry .nil),j8⟩);have hbT:b≠T:=fun z=>by
   have:b<s.heap.objs.size:=by
    rcases yl.mp hb with rfl|hb;exact yM he;rw[yH.mp hb];exact yM hoi
   exact absurd (yz this hT) (by rw[z];exact xN _)
  rw[Z5 hbT];exact (hf b hb).1
 done:=by
  intro X hP hw hK hc i pins s σ H E I hf st hs;subst hP hw;obtain⟨xs,hq,hle⟩:=hs;obtain⟨⟨pL,rv,hL⟩,inj⟩:=rd X pins σ H s xs hK I hq;obtain⟨fp,Mid,W⟩:=W X.A pL.toArray s.heap i (I.ok.hd hc) hL st.2 st.1;have hi:i=pL.toArray.size:=by rw[<-hle,rv.length];simp
  refine W.done s _ E (by rw[<-hi];exact⟨st.1,st.2,hL⟩) fun h' tk hk=>⟨rfl,?_⟩;exact I.turnedL hf hk
 self:=fun A i s Q E st h=>by obtain⟨⟨old,he⟩,_⟩:=st;exact wpAny_pyIter_enum he h
section
variable {X:Cx}{elts:List Expr}{k:Nat}{nX:Pos}
def K9 (K:yS)(ta:TA):TI:=fun σ H R=>ta σ H fun vs H1=>∃ a,vs=[.ref a]/\(∃ xs,SqL K H1 a xs)/\R (VX fun H xs=>SqL K H a xs) H1
def Kq (K:yS)(ta:TA):TI:=fun σ H R=>ta σ H fun vs H1=>∃ a,vs=[.ref a]/\(∃ xs,SqT K H1 a xs)/\R (VX fun H xs=>SqT K H a xs) H1
theorem Nv:uh "enumerate"=some (.type "enumerate"):=by decide +kernel
theorem MH {l:Expr}{ta:TA}{p pos:Pos}(hg:Gl X "enumerate")(hm:X.mg "enumerate"=none)(ha:PA X [l] ta)(hs:uB [l] X.env=[(false,eval l X.env)]:=by rfl) :
  PI X (.Tuple elts k nX) (.Call (.Name "enumerate" p) [l] [] pos) (K9 X.K ta):=by
 intro pins s σ H R I h;refine Call_ (Wc I hg hm Nv (sO (thn (ha pos pins s σ H _ I h) fun us s1 ⟨vs,H1,I1,r1,q1⟩=>?_) hs rfl));obtain⟨a,rfl,⟨xs,hq⟩,q⟩:=q1;obtain⟨u,rfl,ru⟩:=YX r1;obtain rfl:u=uI a:=ru;obtain⟨pL,rv,p,hz⟩:=I1.list hq;have ha:a<s1.heap.objs.size:=by obtain⟨o,ho,_⟩:=p.isList;exact yM ho
 refine call_enumerate_list p.isList fun h' he hit hsz hk=>?_;refine wpAny_pyIter_enum he ?_;have I2:Inv X pins σ H1 { s1 with heap:=h' }:=I1.kept (t':=s1.toks) hk;refine⟨s1.heap.objs.size+1,[s1.heap.objs.size+1,s1.heap.objs.size],_,_,H1,Z,I2,NG (fun H xs=>SqL X.K H a xs) (fun h pL=>h.IsList a pL) (fun i h=>h.IsListIter s1.heap.objs.size a i) (s1.heap.objs.size+1) s1.heap.objs.size ?_ ?_ ?_ ?_,⟨⟨_,he⟩,hit⟩,fun b hb=>?_,q⟩;rintro i h ⟨o,q1,q2,q3⟩;exact⟨o,q1,fun v z=>by rw[q3]at z;cases z⟩;intro i h h' st kp;exact st.at kp;intro X' pI σ' H' s' ys hK I' mw;rw[<-hK]at mw;obtain⟨its',rv',p',_⟩:=I'.list mw;exact⟨⟨its',rv',p'.isList⟩,fun zs hz=>I'.list_inj (by rw[hK];exact hz) mw⟩;intro A items h i hh hL hI hE;obtain⟨old,hE⟩:=hE;obtain⟨ol,hol,hcl,_⟩:=id hL;obtain⟨oi,hoi,hci,_⟩:=id hI;exact⟨_,_,WalksT.enumerate hh _ _ a (vH _) (RU hol hE (by rw[hcl];show tP "list"≠tP "enumerate";decide)) (RU hol hoi (by rw[hcl,hci];decide)) items⟩;rcases yl.mp hb with rfl|hb;exact I1.fpOk (wJ _) (I1.hok.fresh (wJ _));rw[yH.mp hb];exact I1.fpOk (yO _) (I1.hok.fresh (yO _))
theorem MF {l:Expr}{ta:TA}{p pos:Pos}(hg:Gl X "enumerate")(hm:X.mg "enumerate"=none)(ha:PA X [l] ta)(hs:uB [l] X.env=[(false,eval l X.env)]:=by rfl) :
  PI X (.Tuple elts k nX) (.Call (.Name "enumerate" p) [l] [] pos) (Kq X.K ta):=by
 intro pins s σ H R I h;refine Call_ (Wc I hg hm Nv (sO (thn (ha pos pins s σ H _ I h) fun us s1 ⟨vs,H1,I1,r1,q1⟩=>?_) hs rfl));obtain⟨a,rfl,⟨xs,hq⟩,q⟩:=q1;obtain⟨u,rfl,ru⟩:=YX r1;obtain rfl:u=uI a:=ru;obtain⟨pL,rv,p,hz⟩:=I1.tuple hq;refine Js (show s1.heap.IsTuple a pL.toArray from p) fun h' he hit hsz hk=>?_;refine wpAny_pyIter_enum he ?_;have I2:Inv X pins σ H1 { s1 with heap:=h' }:=I1.kept (t':=s1.toks) hk;refine⟨s1.heap.objs.size+1,[s1.heap.objs.size+1,s1.heap.objs.size],_,_,H1,Z,I2,NG (fun H xs=>SqT X.K H a xs) (fun h pL=>h.IsTuple a pL) (fun i h=>h.IsTupleIter s1.heap.objs.size a i) (s1.heap.objs.size+1) s1.heap.objs.size ?_ ?_ ?_ ?_,⟨⟨_,he⟩,hit⟩,fun b hb=>?_,q⟩;rintro i h ⟨o,q1,q2,q3⟩;exact⟨o,q1,fun v z=>by rw[q3]at z;cases z⟩;rintro i h h' ⟨o,q1,q2⟩ kp;exact⟨o,kp o q1,q2⟩;intro X' pI σ' H' s' ys hK I' mw;rw[<-hK]at mw;obtain⟨its',rv',p',_⟩:=I'.tuple mw;exact⟨⟨its',rv',p'⟩,fun zs hz=>I'.tuple_inj (by rw[hK];exact hz) mw⟩;intro A items h i hh hL hI hE;obtain⟨old,hE⟩:=hE;obtain⟨ol,hol,hcl,_⟩:=id hL;obtain⟨oi,hoi,hci,_⟩:=id hI;have pC:a≠s1.heap.objs.size:=RU hol hoi (by rw[hcl,hci];decide);have hne2:a≠s1.heap.objs.size+1:=RU hol hE (by rw[hcl];show tP "tuple"≠tP "enumerate";decide);exact⟨_,_,WalksT.enumerateD (IQ (A:=A.in1) hh s1.heap.objs.size a pC items) (s1.heap.objs.size+1) (vH _) (fun hm=>(yl.mp hm).elim (vH _) fun hm=>hne2 (yH.mp hm).symm) (by simp)⟩;rcases yl.mp hb with rfl|hb;exact I1.fpOk (wJ _) (I1.hok.fresh (wJ _));rw[yH.mp hb];exact I1.fpOk (yO _) (I1.hok.fresh (yO _))
end
def Itd (a:Addr)(kvs:List (Key×V))(o:Obj):It:=
 ⟨fun i H=>H a=some (.frz o (.dK kvs))/\∃ kv,kvs[i]?=some kv,fun i H x H'=>∃ T k v,H T=none/\x=.ref T/\kvs[i]?=some (k,v)/\H'=upd H T (.tup [kV k,v]),fun i H=>H a=some (.frz o (.dK kvs))/\kvs.length<=i⟩
theorem KV.get {kvs:List (Key×V)}{vs:List (Key×uT)}(r:KV kvs vs):∀ {i:Nat} {k:Key} {v:V},kvs[i]?=some (k,v)->∃ u,vs[i]?=some (k,u)/\ZS v u:=by
 unfold KV at r
 induction r with
 | nil=>intro i k v e;simp at e
 | @cons p q ps qs h t ih=>
  intro i k v e;cases i with
  | zero=>
   simp at e;subst e;obtain⟨q1,q2⟩:=q;obtain⟨h1,h2⟩:=h;have h1:k=q1:=h1;subst h1;exact⟨q2,Z,h2⟩
  | succ i=>simpa using ih (by simpa using e)
theorem Oe {P:uE}{w:uw}{k:Key}{u:uT}(h:(Zt P w).is k u=true):ZS (kV k) u:=by
 rcases XG (show V1 k u=true from h) with ⟨i,t,rfl,rfl⟩|⟨x,t,rfl,rfl⟩;exact⟨t,Z⟩;exact⟨t,Z⟩
theorem PD {X:Cx}{pins:List (Addr×Obj)}{σ:St}{H:Hp}{s:uS}{a:Addr}{o:Obj}{es:Array qF}{ep:Nat}{kvs:List (Key×V)}(I:Inv X pins σ H s)(h:H a=some (.frz o (.dK kvs)))(hd:o.data=.dict es ep) :
  ∃ vs,KV kvs vs/\s.heap.DictAt (Zt X.prog X.w) a vs ep/\s.heap.get? a=some o:=by
 obtain⟨h1,z,hs,vs,rv,o',es',ep',e,r⟩:=(show ZC X.prog X.w H s.heap a (.frz o (.dK kvs)) from I.hok a _ h);rw[h1]at e;cases e;obtain⟨r1,r2,r3⟩:=r;rw[hd]at r2;cases r2;exact⟨vs,rv,⟨o,es,h1,r1,hd,r3⟩,h1⟩
theorem Ip {P:uE}{w:uw}{K:yS}{elts:List Expr}{k:Nat}{pos:Pos}(a it:Addr)(o:Obj)(es:Array qF)(ep:Nat)(kvs:List (Key×V))(hd:o.data=.dict es ep) :
  Wv P w K (.Tuple elts k pos) (Itd a kvs o) [it] it (fun i h=>∃ ok ov,IsItemIter h it a i kvs.length ep ok ov) where
 mem:=by simp
 obj:=fun i h st b hb=>by
  obtain⟨ok,ov,he⟩:=st;rw[yH.mp hb];exact⟨_,he,fun v z=>nomatch z⟩
 keep:=fun i h h' ⟨ok,ov,he⟩ kp=>⟨ok,ov,kp it (by simp) _ he⟩
 item:=by
  intro X hP hw hK hc i pins s σ H E I hf st hg;subst hP hw;obtain⟨hz,⟨kk,v⟩,hx⟩:=hg;obtain⟨vs,rv,dd,ha⟩:=PD I hz hd;obtain⟨ok,ov,hit⟩:=st;obtain⟨u,hu,ru⟩:=rv.get hx;have hl:kvs.length=vs.length:=rv.length;rw[hl]at hit;refine wpAny_pyNext_items_item hit dd hu fun key h' gp hout i9 hsz hk=>⟨.ref s.heap.objs.size,rfl,?_⟩;refine wpAny_letOwnedTupleGo_items hout fun md b9 gD=>?_;have cb:it<s.heap.objs.size:=yM hit;have pC:s.heap.objs.size≠it:=w9 cb;refine⟨.ref s.heap.objs.size,upd H s.heap.objs.size (.tup [kV kk,v]),?_,Z,⟨_,kk,v,I.hok.fresh (yO _),Z,hx,Z⟩,⟨key,u,by rw[hl];exact b9⟩,fun b hb=>?_⟩;refine I.turnLaid (s:=s) (h':=md) (t':=s.toks) hf (yO _) (fun b ob hb q=>?_) ⟨⟨by show 2<=uR;decide,_,(gD.2 _ pC).trans i9,rfl⟩,[key,u],.cons (Oe gp) (.cons ru .nil),⟨_,(gD.2 _ pC).trans i9,rfl,_,rfl⟩⟩;have hbi:b≠it:=fun z=>hb (by simp[z]);exact (gD.2 b hbi).trans (hk b ob hbi q);rw[yH.mp hb,Z5 (uc pC)];exact (hf it (by simp)).1
 done:=by
  intro X hP hw hK hc i pins s σ H E I hf st hs;subst hP hw;obtain⟨hz,hle⟩:=hs;obtain⟨vs,rv,dd,ha⟩:=PD I hz hd;obtain⟨ok,ov,hit⟩:=st;have hl:kvs.length=vs.length:=rv.length;rw[hl]at hit;refine wpAny_pyNext_items_end (I.ok.hd hc) hit dd (xO (by lia)) fun h' hk=>⟨rfl,?_⟩;exact I.turnedL (t':=s.toks) hf fun b ob hb q=>hk b ob (fun z=>hb (by simp[z])) q
 self:=fun A i s Q E ⟨ok,ov,he⟩ h=>PySem.W.kcp_self he h
section
variable {X:Cx}{elts:List Expr}{k:Nat}{nX:Pos}
theorem Inv.freeze {pins:List (Addr×Obj)}{σ:St}{H:Hp}{s:uS}{a:Addr}{kvs:List (Key×V)}(I:Inv X pins σ H s)(h:H a=some (.dK kvs)) :
  ∃ o es ep,o.data=.dict es ep/\Inv X pins σ (upd H a (.frz o (.dK kvs))) s:=by
 obtain⟨z,hs,vs,rv,o,es,ep,e,r1,r2,r3⟩:=(show ZC X.prog X.w H s.heap a (.dK kvs) from I.hok a _ h);refine⟨o,es,ep,r2,?_⟩;have:=I.write (x:=a) (e:=a) (o:=.frz o (.dK kvs)) (h':=s.heap) (t':=s.toks) (by rw[h];exact tH) (.inl rfl) (fun _ _ _ q=>q) ⟨o,e⟩ ⟨e,z,hs,vs,rv,o,es,ep,e,r1,r2,r3⟩;exact this
def B9 (tl:TE):TI:=fun σ H R=>tl σ H fun x H1=>∃ a kvs,x=.ref a/\Rd H1 a (.dK kvs)/\∀ o H2,H2 a=some (.frz o (.dK kvs))->(∀ b,b≠a->H2 b=H1 b)->R (Itd a kvs o) H2
theorem Fc {d:Expr}{tl:TE}{apos pB:Pos}(hl:PE X d tl)(hb:qM d "items" X.env (eval d X.env)=eval d X.env:=by rfl)(nI:(apos.endLine==pB.line)=true:=by rfl) :
  PI X (.Tuple elts k nX) (.Call (.Attribute d "items" apos) [] [] pB) (B9 tl):=by
 intro pins s σ H R I h;have fin:∀ {s1:uS} {H1:Hp} {a:Addr} {kvs:List (Key×V)} {o:Obj} {es:Array qF} {ep:Nat},Inv X pins σ H1 s1->H1 a=some (.frz o (.dK kvs))->o.data=.dict es ep->R (Itd a kvs o) H1->
   s1.TypeIs (.ref a) "dict"/\(∀ b,uI a=.ref b->∃ ob,s1.heap.get? b=some ob/\ob.dict=none)/\
   uP (uM X.prog X.w) X.A (callWith pB (.builtin "dict.items") [.ref a] [] []) (fun v s1=>uP (uM X.prog X.w) X.A (pyIter v) (PIE X pins σ (.Tuple elts k nX) R) X.xe s1) X.xe s1:=by
  intro s1 H1 a kvs o es ep I1 hz hd q;obtain⟨vs,rv,dd,ha⟩:=PD I1 hz hd;have hS:(a==tI)=false:=by
   obtain⟨_,_,hs,_⟩:=(show ZC X.prog X.w H1 s1.heap a (.frz o (.dK kvs)) from I1.hok a _ hz);exact hs
  have nY:=dd.dictOf;refine⟨nY.typeIs,nY.mapOf.noDict,?_⟩;refine method_meetsIn F.slot_dict_items F.entry_dict_items rfl (PySem.evalArgs_none ⟨rfl,nY.typeIs,F.args_dict_items_1 _,_,meets_dict_items (Zt X.prog X.w) a hS,⟨vs,nY⟩,?_⟩);refine wpAny_pyIter_items (knd:=Zt X.prog X.w) (kvs:=vs) (ep:=ep) ⟨_,yN _ rfl,rfl,rfl⟩ (dd.push _) ?_;have I2:=(I1.kept (h':=s1.heap.push { cls:=.type "dict_items",data:=.fields #[.ref a] }) (t':=s1.toks) fun b o e=>yQ _ e);have I3:=(I2.kept (h':=(s1.heap.push { cls:=.type "dict_items",data:=.fields #[.ref a] }).push { cls:=.type "dict_itemiterator",data:=.fields #[.none,.bool false,.ref a,.int 0 0,.int vs.length 0,.int ep 0,.none,.none] }) (t':=s1.toks) fun b o e=>yQ _ e);refine⟨_,[_],_,_,H1,Z,I3,Ip a _ o es ep kvs hd,⟨.none,.none,?_⟩,fun b hb=>?_,q⟩;have hlen:kvs.length=vs.length:=rv.length;rw[hlen];exact yN _ rfl;rw[yH.mp hb];exact I2.fpOk (yO _) (I2.hok.fresh (yO _))
 refine wpAny_Call_method (T:="dict") (id:="dict.items") hb rfl nI F.plainAttrs_dict F.slot_dict_items F.type_dict_items (thn (hl pins s σ H _ I h) fun v s1 ⟨x,H1,I1,r1,a,kvs,e,rd,q⟩=>?_);subst e;obtain rfl:v=uI a:=r1;rcases rd with hz|⟨o,hz⟩;obtain⟨o,es,ep,hd,I2⟩:=I1.freeze hz;exact fin I2 Z0 hd (q o _ Z0 fun b hb=>Z5 hb);obtain⟨h1,z,hs,vs,rv,o',es,ep,e,r1,r2,r3⟩:=(show ZC X.prog X.w H1 s1.heap a (.frz o (.dK kvs)) from I1.hok a _ hz);rw[h1]at e;cases e;exact fin I1 hz r2 (q o _ hz fun _ _=>rfl)
end
section
variable {X:Cx}
theorem Tj (hc:X.calm=true):Y7 X (.builtin "all") (fun xs H Q=>∃ (p:Addr) (bs:List Bool),xs=[.ref p]/\SqL X.K H p (bs.map V.bl)/\Q (.bl (bs.all id)) H):=by
 intro pins s σ H xs us Q I r h;obtain⟨p,bs,rfl,hq,q⟩:=h;obtain⟨u,rfl,ru⟩:=YX r;obtain rfl:u=uI p:=ru;obtain⟨pL,rv,pl,hz⟩:=I.list hq;have hL:=pl.isList;have pJ:p<s.heap.objs.size:=by obtain⟨o,ho,_⟩:=id hL;exact yM ho
 have hlen:pL.length=bs.length:=by rw[<-rv.length];simp
 refine call_all_walkS (sC hL ⟨s.heap.objs.size,_,_,_,pL.toArray.size,_,_,fun i=>bs.getD i true,rfl,(Walks.list (A:=X.A.in1) (I.ok.hd hc) s.heap.objs.size p (yv pJ) pL.toArray).toS,⟨⟨_,yN _ rfl,rfl,rfl⟩,hL.push _⟩,?_,fun s' hm=>?_⟩);intro i v s2 Q2 E2 hP hQ;have hv:pL[i]?=some v:=by simpa using hP
 have hi:i<bs.length:=by rw[<-hlen];exact (yP.mp hv).1
 have hb:(bs.map V.bl)[i]?=some (.bl bs[i]):=by simp[hi]
 obtain⟨u,hu,ru⟩:=rv.get hb;rw[hv]at hu;cases hu;obtain rfl:v=tj bs[i]:=ru;have e:bs.getD i true=bs[i]:=by simp[yG,hi]
 simp only[e]at hQ;exact tU hQ;rw[Moved.eq_with hm];refine⟨.bl _,H,I.kept (h':=s'.heap) (t':=s'.toks) fun b o e=>hm.heap b o (fun z=>?_) (yQ _ e),Z,?_⟩;exact absurd (yM e) (by rw[yH.mp z];exact xN _);have e:(yI pL.toArray.size).all (fun i=>bs.getD i true)=bs.all id:=by
  have:pL.toArray.size=bs.length:=by simpa using hlen
  rw[this];apply wb.mpr;simp only[yn,yL,id];constructor;intro h b hb;obtain⟨i,hi,rfl⟩:=yc.mp hb;have:=h i hi;simpa [yG,hi] using this
  intro h i hi;have:=h bs[i] (xJ hi);simpa [yG,hi] using this
 rw[e];exact q
def Dn (K:yS)(H:Hp)(p:Addr)(r:List Nat):Prop:=SqL K H p (nv r)\/SqT K H p (nv r)\/∃ kvs,H p=some (.dK kvs)/\kvs.map (·.1)=r.map fun (n:Nat)=>ur (n:Int)
theorem Wh:∀ {r:List Nat} {us:List uT},ZX (nv r) us->tE us (r.map fun (n:Nat)=>(n:Int)):=fun {r us} h=>Io (by rw[xl];exact h)
theorem DU {ms:List Int}{r:List Nat}(p:ms.Perm (r.map fun (n:Nat)=>(n:Int)))(so:ms.Pairwise (·<=·)):∃ S:List Nat,ms=S.map (fun (n:Nat)=>(n:Int))/\S.Perm r/\S.Pairwise (·<=·):=by
 have hn:∀ m∈ms,0<=m:=fun m hm=>by
  obtain⟨n,_,rfl⟩:=yE.mp (p.mem_iff.mp hm);exact Int.natCast_nonneg n
 have e:ms=(ms.map Int.toNat).map fun (n:Nat)=>(n:Int):=by
  rw[xl]
  conv=>lhs;rw[<-List.map_id ms]
  exact List.map_congr_left fun m hm=>by simp[wj (hn m hm)]
 refine⟨ms.map Int.toNat,e,?_,?_⟩;have:=p.map Int.toNat;rw[xl]at this;have e2:r.map (Int.toNat ∘ fun (n:Nat)=>(n:Int))=r:=by
  conv=>rhs;rw[<-List.map_id r]
  exact List.map_congr_left fun m _=>by simp
 rw[e2]at this;exact this;exact wQ.mpr (so.imp_of_mem fun ha hb h=>by have:=hn _ ha;have:=hn _ hb;lia)
theorem IX {us:List uT}{S:List Nat}(h:tE us (S.map fun (n:Nat)=>(n:Int))):ZX (nv S) us:=by
 have:=QK h;rw[xl]at this;exact this
def Dw (K:yS):List V->Hp->VK->Prop:=fun xs H Q=>∃ (p:Addr) (r:List Nat),xs=[.ref p]/\Dn K H p r/\r.length<64/\∀ l S,H l=none->S.Perm r->S.Pairwise (·<=·)->Q (.ref l) (upd H l (.lst (nv S)))
theorem ID (hc:X.calm=true):Y7 X (.builtin "sorted") (Dw X.K):=by
 intro pins s σ H xs us Q I rr h;obtain⟨p,r,rfl,src,h64,q⟩:=h;obtain⟨u,rfl,ru⟩:=YX rr;obtain rfl:u=uI p:=ru;have hh:=I.ok.hd hc;have fin:∀ (vs:List uT),tE vs (r.map fun (n:Nat)=>(n:Int))->
   (∀ (A:uq) (R:List uT->uS->Prop),A.handled=none->(∀ vs kI h' tk,tE vs kI->kI=(r.map fun (n:Nat)=>(n:Int))->(∀ b o,s.heap.get? b=some o->h'.get? b=some o)->R vs { s with heap:=h',toks:=tk })->uP (uM X.prog X.w) A (collect (.ref p)) R X.xe s)->
   uP (uM X.prog X.w) X.A (call (.builtin "sorted") [.ref p]) (EP X pins σ Q) X.xe s:=by
  intro vs hI gg;refine GH hI (by rw[hI.length,yK];exact h64) gg hh fun h1 h2 tk e out kI a1 a2 a3 hk ho i5=>?_;obtain⟨S,rfl,pS,sS⟩:=DU a2 a3;have I1:Inv X pins σ H { s with heap:=h1,toks:=tk }:=I.kept hk;have hlen:S.length<64:=by rw[pS.length_eq];exact h64
  refine⟨.ref h1.objs.size,_,I1.laid (a:=h1.objs.size) (o:=.lst (nv S)) (h':=h2) (t':=tk) i5 (yO _) ⟨?_,out.toList,e,IX a1,by simpa using ho⟩,Z,q _ S (I1.hok.fresh (yO _)) pS sS⟩;rw[Zs];exact wK (YN (by lia))
 rcases src with hq|hq|⟨kvs,hd,hkeys⟩;obtain⟨pL,rv,pl,hz⟩:=I.list hq;refine fin pL (Wh rv) fun A R hA hR=>?_;refine collect_list pl.isList (hR pL _ _ s.toks (Wh rv) rfl fun b o e=>?_) (by rw[<-rv.length];exact hz);exact (yj _ _ (w9 (yM e))).trans (yQ _ e);obtain⟨pL,rv,pl,hz⟩:=I.tuple hq;refine fin pL (Wh rv) fun A R hA hR=>?_;exact IL (show s.heap.IsTuple p pL.toArray from pl) (by rw[<-rv.length];exact hz) fun h' hk=>hR pL _ _ s.toks (Wh rv) rfl hk
 ·obtain⟨z,hs,vs,rv,dd⟩:=Ro I.hok hd;obtain⟨ep,da⟩:=dd.dictAt;have hks:vs.map (·.1)=r.map fun (n:Nat)=>ur (n:Int):=by rw[<-rv.keys];exact hkeys
  have key:∀ (l:List uT),l.length=vs.length->(∀ (j:Nat) (v:uT),l[j]?=some v->∃ k x,vs[j]?=some (k,x)/\(Zt X.prog X.w).is k v=true)->tE l (r.map fun (n:Nat)=>(n:Int)):=by
   intro l hl hj;refine Wh ?_;have hlr:l.length=r.length:=by rw[hl];simpa using tX wB hks
   have:∀ (r':List Nat) (l':List uT),l'.length=r'.length->(∀ (j:Nat) (v:uT),l'[j]?=some v->∃ n,r'[j]?=some n/\∃ t,v=qV (n:Int) t)->ZX (nv r') l':=by
    intro r'
    induction r' with
    | nil=>intro l' hl _;rw[uX.mp hl];exact .nil
    | cons n r' ih=>
     intro l' hl hj;cases l' with
     | nil=>simp at hl
     | cons v l'=>
      obtain⟨m,em,t,ev⟩:=hj 0 v rfl;simp at em;subst em;exact .cons ⟨t,ev⟩ (ih l' (by simpa using hl) fun j v hv=>by simpa using hj (j+1) v (by simpa using hv))
   refine this r l hlr fun j v hv=>?_;obtain⟨k,x,e1,e2⟩:=hj j v hv;have e3:(r.map fun (n:Nat)=>(ur (n:Int):Key))[j]?=some k:=(by rw[<-hks,yw,e1];rfl);rw[yw]at e3;cases en:r[j]? with
   | none=>rw[en]at e3;cases e3
   | some n=>
    rw[en]at e3;have e4:(ur (n:Int):Key)=k:=uz.inj e3;subst e4;obtain⟨t,et⟩:=(show ∃ t,v=qV (n:Int) t from Oe e2);exact⟨n,Z,t,et⟩
  obtain⟨l0,gq,hj0⟩:∃ l:List uT,l.length=vs.length/\∀ (j:Nat) (v:uT),l[j]?=some v->∃ k x,vs[j]?=some (k,x)/\(Zt X.prog X.w).is k v=true:=by
   refine⟨vs.map fun kv=>match kv.1 with|ur i=>qV i 0|uN x=>pP x 0,by simp,fun j v hv=>?_⟩;rw[yw]at hv;cases e:vs[j]? with
   | none=>rw[e]at hv;cases hv
   | some kv=>
    rw[e]at hv;obtain⟨k,x⟩:=kv;refine⟨k,x,Z,?_⟩;cases k with
    | inl i=>cases hv;exact Oa _ _ i 0
    | inr x=>cases hv;exact Od _ _ x 0
  refine fin l0 (key l0 gq hj0) fun A R hA hR=>?_;refine PySem.W.kdu_collect (PySem.W.kdl_dict (knd:=Zt X.prog X.w) (kvs:=vs) (ep:=ep) hs) hA da (by rw[<-rv.length];exact z) fun h' tk acc hk bP=>?_;exact hR acc.toList _ h' tk (key acc.toList (by simpa using bP.1) fun j v hv=>bP.2 j v (by simpa using hv)) rfl hk
noncomputable def We (r:List Nat):Nat:=(qS (fun i=>(r.map fun (n:Nat)=>(n:Int)).getD i 0) r.length).length
def rSet (K:yS):List V->Hp->VK->Prop:=fun xs H Q=>∃ (p:Addr) (r:List Nat),xs=[.ref p]/\(SqL K H p (nv r)\/SqT K H p (nv r))/\r.length<=1000/\∀ d S,H d=none->Q (.ref d) (upd H d (.set S (We r)))
theorem EO (hc:X.calm=true):Y7 X (.type "set") (rSet X.K):=by
 intro pins s σ H xs us Q I rr h;obtain⟨p,r,rfl,src,hl,q⟩:=h;obtain⟨u,rfl,ru⟩:=YX rr;obtain rfl:u=uI p:=ru;have hh:=I.ok.hd hc;have fin:∀ {pL:List uT} {h':Heap} {tk:Nat},pL.length=r.length->h'.SetOf (intKind X.prog X.w) s.heap.objs.size (fun k'=>(qS (fun i=>(r.map fun (n:Nat)=>(n:Int)).getD i 0) pL.toArray.size).any (· == k')) (qS (fun i=>(r.map fun (n:Nat)=>(n:Int)).getD i 0) pL.toArray.size).length->
   (∀ b o,b<s.heap.objs.size->s.heap.get? b=some o->h'.get? b=some o)->EP X pins σ Q (.ref s.heap.objs.size) { s with heap:=h',toks:=tk }:=by
  intro pL h' tk hlen hS hk;have e:pL.toArray.size=r.length:=by simpa using hlen
  rw[e]at hS;exact⟨.ref s.heap.objs.size,_,I.laid (a:=s.heap.objs.size) (o:=.set _ (We r)) (fun b o z=>hk b o (yM z) z) (yO _) hS,Z,q _ _ (I.hok.fresh (yO _))⟩
 rcases src with hq|hq;obtain⟨pL,rv,pl,hz⟩:=I.list hq;have hlen:pL.length=r.length:=by rw[<-rv.length,Zs]
 exact call_set_list hh pl.isList (by simpa using Wh rv) (by unfold pM;simp;lia) fun h' tk hS hk=>fin hlen hS hk;obtain⟨pL,rv,pl,hz⟩:=I.tuple hq;have hlen:pL.length=r.length:=by rw[<-rv.length,Zs]
 refine IZ hh (show s.heap.IsTuple p pL.toArray from pl) (by simpa using Wh rv) (by unfold pM;simp;lia) fun s' oG=>?_;obtain⟨h',tk,rfl,hS,hk⟩:=oG;exact fin hlen hS hk
theorem GV {r:List Nat}(h:r.Nodup):We r=r.length:=by
 unfold We;have key:∀ n,n<=r.length->qS (fun i=>(r.map fun (n:Nat)=>(n:Int)).getD i 0) n=(r.take n).map fun (n:Nat)=>(n:Int):=by
  intro n
  induction n with
  | zero=>intro _;rfl
  | succ n ih=>
   intro hn;have pJ:n<r.length:=hn;rw[firstMet_succ,ih (by lia),xT,yR pJ];have e:(r.map fun (n:Nat)=>(n:Int)).getD n 0=(r[n]:Int):=(by simp[yG,pJ]);rw[e];unfold step_dedup;rw[uL];rw[ym];rfl;intro hc;have i6:r[n]∈r.take n:=by
    rw[xq]at hc;obtain⟨z,hz,ez⟩:=hc;obtain⟨m,hm,rfl⟩:=yE.mp hz;have:m=r[n]:=(by have:=tf.mp ez;lia);rw[<-this];exact hm
   obtain⟨i,hi,ei⟩:=yc.mp i6;have i4:i<n:=(by simp at hi;lia);have:r[i]=r[n]:=(by rw[<-ei];simp);have hp:=wX.mp h i n (by lia) pJ i4;exact hp this
 rw[key r.length (yO _)];simp
theorem Jf:Y7 X (.builtin "len") (fun xs H Q=>∃ (p:Addr) (S:Int->Bool) (n:Nat),xs=[.ref p]/\H p=some (.set S n)/\Q (.int (n:Int)) H):=by
 intro pins s σ H xs us Q I r h;obtain⟨p,S,n,rfl,hp,q⟩:=h;obtain⟨u,rfl,ru⟩:=YX r;obtain rfl:u=uI p:=ru;obtain⟨o,es,ep,t,h1,h2,h3,h4,h5,h6,h7,h8⟩:=(show ZC X.prog X.w H s.heap p (.set S n) from I.hok p _ hp);refine call_len_set h1 h2 h3 h7 (by unfold pM at h6;lia) ⟨.int (n:Int),H,I.tok _,⟨_,by rw[h8]⟩,q⟩
end
theorem Pp {sq:Hp->List V->Prop}{xs:List V}{g:TG}{tb:TS}{D:Zc}{σ:St}{H:Hp}(Pv:Nat->St->Hp->Prop)(h0:Pv 0 σ H)(hl:∀ i σ H,i<=xs.length->Pv i σ H->sq H xs)
  (hs:∀ i x σ H T,xs[i]?=some x->H T=none->Pv i σ H->g (.ref T) σ (upd H T (Ya T [.int (i:Int),x])) fun σ2 H2=>tb { D with nx:=Pv (i+1),ct:=Pv (i+1),bk:=D.nx } σ2 H2) (hd:∀ σ H,Pv xs.length σ H->D.nx σ H) :
  ∃ W:Nat->Nat->St->Hp->Prop,(∃ m,W 0 m σ H)/\∀ i m σ H,W i m σ H->
   ((VX sq).stop i H/\D.nx σ H)\/((VX sq).go i H/\∃ N:St->Hp->Prop,(∀ σ' H',N σ' H'->∃ m',m'<m/\W (i+1) m' σ' H')/\∀ x H',(VX sq).yld i H x H'->g x σ H' fun σ2 H2=>tb { D with nx:=N,ct:=N,bk:=D.nx } σ2 H2):=by
 refine⟨fun i m σ H=>m=xs.length-i/\i<=xs.length/\Pv i σ H,⟨xs.length,by simp,xY _,h0⟩,?_⟩;rintro i m σ H ⟨rfl,hi,p⟩;have q:=hl i σ H hi p;by_cases pJ:i<xs.length;refine .inr ⟨⟨xs,xs[i],q,by simp[pJ]⟩,Pv (i+1),fun σ' H' p'=>⟨xs.length-(i+1),by lia,rfl,pJ,p'⟩,fun x H' y=>?_⟩;obtain⟨T,z,hT,rfl,hz,rfl⟩:=y;exact hs i z σ H T (hz xs q) hT p;have e:i=xs.length:=by lia
 subst e;exact .inl ⟨⟨xs,q,rfl⟩,hd σ H p⟩
theorem Gp {a:Addr}{kvs:List (Key×V)}{o:Obj}{g:TG}{tb:TS}{D:Zc}{σ:St}{H:Hp}(Pv:Nat->St->Hp->Prop)(h0:Pv 0 σ H)(hl:∀ i σ H,i<=kvs.length->Pv i σ H->H a=some (.frz o (.dK kvs)))
  (hs:∀ i k v σ H T,kvs[i]?=some (k,v)->H T=none->Pv i σ H->g (.ref T) σ (upd H T (.tup [kV k,v])) fun σ2 H2=>tb { D with nx:=Pv (i+1),ct:=Pv (i+1),bk:=D.nx } σ2 H2) (hd:∀ σ H,Pv kvs.length σ H->D.nx σ H) :
  ∃ W:Nat->Nat->St->Hp->Prop,(∃ m,W 0 m σ H)/\∀ i m σ H,W i m σ H->
   ((Itd a kvs o).stop i H/\D.nx σ H)\/((Itd a kvs o).go i H/\∃ N:St->Hp->Prop,(∀ σ' H',N σ' H'->∃ m',m'<m/\W (i+1) m' σ' H')/\∀ x H',(Itd a kvs o).yld i H x H'->g x σ H' fun σ2 H2=>tb { D with nx:=N,ct:=N,bk:=D.nx } σ2 H2):=by
 refine⟨fun i m σ H=>m=kvs.length-i/\i<=kvs.length/\Pv i σ H,⟨kvs.length,by simp,xY _,h0⟩,?_⟩;rintro i m σ H ⟨rfl,hi,p⟩;have q:=hl i σ H hi p;by_cases pJ:i<kvs.length;refine .inr ⟨⟨q,kvs[i],by simp[pJ]⟩,Pv (i+1),fun σ' H' p'=>⟨kvs.length-(i+1),by lia,rfl,pJ,p'⟩,fun x H' y=>?_⟩;obtain⟨T,k,v,hT,rfl,hz,rfl⟩:=y;exact hs i k v σ H T hz hT p;have e:i=kvs.length:=by lia
 subst e;exact .inl ⟨⟨q,yO _⟩,hd σ H p⟩
def OT (n:Nat)(ys:List V)(Pv:Nat->St->Hp->Prop)(d:Addr)(i:Nat)(σ3:St)(y:V)(H4:Hp):Prop:=
 ∃ xs,H4 d=some (.lst xs)/\xs.length<uR/\∃ m',m'<n-i/\m'=n-(i+1)/\i+1<=n/\Pv (i+1) σ3 (upd H4 d (.lst (xs++[y])))/\(upd H4 d (.lst (xs++[y]))) d=some (.lst (ys.take (i+1)))
theorem Xc {n:Nat}{ys:List V}{Pv:Nat->St->Hp->Prop}{d:Addr}{i:Nat}{σ3:St}{y:V}{H4:Hp}(hi:i<n)(hn:n<=1000)(hd:H4 d=some (.lst (ys.take i)))(hy:ys[i]?=some y)(hp:Pv (i+1) σ3 (upd H4 d (.lst (ys.take (i+1))))) :
  OT n ys Pv d i σ3 y H4:=by
 have e:ys.take (i+1)=ys.take i++[y]:=by rw[xT,hy];rfl
 refine⟨_,hd,?_,n-(i+1),by lia,Z,hi,by rw[<-e];exact hp,by rw[Z0,e]⟩;have:(ys.take i).length<=i:=by rw[xy];exact Nat.min_le_left _ _
 exact YN (by lia)
theorem XB {J:It}{g:TG}{te:TE}{d:Addr}{σ0:St}{H1:Hp}{Q:Addr->Hp->Prop}(n:Nat)(ys:List V)(hy:ys.length=n)(Pv:Nat->St->Hp->Prop)(h0:Pv 0 σ0 (upd H1 d (.lst [])))
  (go:∀ i σ H,i<n->Pv i σ H->H d=some (.lst (ys.take i))->J.go i H/\∀ x H2,J.yld i H x H2->g x σ H2 fun σ3 H3=>te σ3 H3 fun y H4=>OT n ys Pv d i σ3 y H4)
  (stop:∀ σ H,Pv n σ H->H d=some (.lst ys)->J.stop n H/\Q d H) :
  ∃ W:Nat->Nat->St->Hp->Prop,(∃ m,W 0 m σ0 (upd H1 d (.lst [])))/\∀ i m σ' H',W i m σ' H'->
   (J.stop i H'/\Q d H')\/(J.go i H'/\∀ x H2,J.yld i H' x H2->g x σ' H2 fun σ3 H3=>te σ3 H3 fun y H4=>∃ xs,H4 d=some (.lst xs)/\xs.length<uR/\∃ m',m'<m/\W (i+1) m' σ3 (upd H4 d (.lst (xs++[y])))):=by
 refine⟨fun i m σ H=>m=n-i/\i<=n/\Pv i σ H/\H d=some (.lst (ys.take i)),⟨n,by simp,xY _,h0,Z0⟩,?_⟩;rintro i m σ H ⟨rfl,hi,p,hd⟩;by_cases pJ:i<n;exact .inr (go i σ H pJ p hd);have e:i=n:=by lia
 subst e;rw[vU (by lia)]at hd;exact .inl (stop σ H p hd)
theorem fsc {N P:List Str}{sc:rX}(h:(sc.kind=.function/\sc.isCoroutine=false/\sc.isGenerator=false)/\N.Nodup/\N.take P.length=P/\(∀ x∈P,sc.names.lookup x=some .local\/sc.names.lookup x=some .cell)/\∀ y∈sc.names,y.2≠.free):ZT N P sc:=⟨h.1.1,h.1.2.1,h.1.2.2,h.2.1,h.2.2.1,h.2.2.2.1,h.2.2.2.2⟩
theorem bsc {N:List Str}{names:List (Str×r6)}{N':List Str}{k:Nat}{pull:List Nat}{sc:rX}(h:sc.kind=.function/\(∀ y∈sc.names,y.2≠.cell)/\(∀ y∈sc.names,y.2=.local->sc.names.lookup y.1=some .local)/\N'.length=k+pull.length/\(∀ i∈yI pull.length,N'[k+i]?=N[pull.getD i 0]?/\∀ x∈(N'[k+i]?).toList,sc.names.lookup x=some .free)/\∀ y∈sc.names,y.2=.free->names.lookup y.1=some .cell):Xg N names N' k pull sc:=⟨h.1,h.2.1,h.2.2.1,h.2.2.2.1,h.2.2.2.2.1,h.2.2.2.2.2⟩
section
variable {X:Cx}{k m i:Nat}{f:Addr}{fd:uC}{ps:List Str}{sp:Sp}{x:Str}{st:Stmt}{p pos pos':Pos}{a b e:Expr}{es:List Expr}{t:TA}{ta tb te:TE}{CX:CXT}{E:XK}
theorem pz {N P:List Str}{sc:rX}(S:ZT N P sc)(i:Nat)(he:PE X e te)(hN:X.N=N:=by rfl)(hi:X.N[i]?=some x:=by rfl)(hx:X.env.scope.names.lookup x=some .local:=by rfl)(hs:rW e (some (.Name x pos')) pos.line X.env=pure false:=by rfl):PS X (.Assign [.Name x pos'] e pos) (Yj te (ZO i)):=PK (hN ▸ S.nd) hi (.inl hx) he hs (.inr hx)
theorem pj {r:R2}(hr:IxR X r)(ha:PE X a ta)(hb:PE X b tb)(hs:Mb b:=by exact fun _ _=>rfl):PE X (.Subscript a b pos) (tOp r ta tb):=OP hr ha hb hs
theorem pq {op:CmpOp}{r:R2}(ho:OpR X (tV op) r)(ha:PE X a ta)(hb:PE X b tb)(hm:qN op b=false:=by exact YA _):PT X (.Compare a [op] [b] pos) (U8 (tOp r ta tb)):=Vs ho ha hb hm
end
def Its (z:Str):It:=⟨fun i _=>i<z.length,fun i H x H'=>H'=H/\∃ c,z.cps[i]?=some c/\x=.str ⟨#[c]⟩,fun i _=>z.length=i⟩
theorem EL {P:uE}{w:uw}{K:yS}{tg:Expr}(it:Addr)(z:Str)(t:Tok):Wv P w K tg (Its z) [it] it (fun i h=>h.IsStrIter it (qp z) z t i):=by
 have W:∀ {A:uq},A.handled=none->Walks P w A it [it] [it] z.cps.size (SignAt z) (fun i h=>h.IsStrIter it (qp z) z t i):=by
  intro A hh;unfold qp;split;exact Walks.strAscii hh it z t;exact Walks.strWide hh it z t
 have cG:["enumerate","zip","dict_itemiterator","dict_reverseitemiterator","odict_iterator","itertools.zip_longest","itertools.pairwise"].contains (qp z)=false:=by
  unfold qp;split<;>decide
 exact {
  mem:=by simp
  obj:=fun i h st b hb=>by
   have e:b=it:=by simpa using hb
   subst e
   obtain⟨o,e,c,d⟩:=st
   exact⟨o,e,fun v z=>by rw[d]at z;cases z⟩
  keep:=fun i h h' st k=>let ⟨o,ho,r⟩:=st;⟨o,k it (by simp) o ho,r⟩
  item:=by
   intro X hP hw hK hc i pins s σ H E I hf st hg
   subst hP hw hK
   obtain⟨f0,f1,f2,f3,f4,f5⟩:=hf it (by simp)
   refine (W (I.ok.hd hc)).item i s _ _ hg st fun v h' tk hv nZ kk=>?_
   obtain⟨c,u,mG,rfl⟩:=hv
   have I1:Inv X pins σ H { s with heap:=h',toks:=tk }:=I.turned (fun b o hb e=>kk b o (by simpa using hb) e) f0 f1 f3 f4 f5
   obtain⟨o,e,c1,d⟩:=id nZ
   exact⟨_,Z,TK (s:={ s with heap:=h',toks:=tk }) e c1 d cG ⟨.str ⟨#[c]⟩,H,I1,⟨_,Z⟩,⟨Z,c,mG,Z⟩,nZ,fun b hb=>(hf b hb).1⟩⟩
  done:=by
   intro X hP hw hK hc i pins s σ H E I hf st hg
   subst hP hw hK
   obtain⟨f0,f1,f2,f3,f4,f5⟩:=hf it (by simp)
   have hg:z.cps.size=i:=hg
   subst hg
   exact (W (I.ok.hd hc)).done s _ _ st fun h' tk kk=>⟨rfl,I.turned (fun b o hb e=>kk b o (by simpa using hb) e) f0 f1 f3 f4 f5⟩
  self:=fun A i s Q E st h=>by
   obtain⟨o,e,c,d⟩:=id st
   unfold qp at st
   split at st
   exact wpAny_pyIter_striter_ascii st h
   exact wpAny_pyIter_striter_wide st h }
section
variable {X:Cx}{tg:Expr}
def TC (tl:TE):TI:=fun σ H R=>tl σ H fun x H1=>∃ z,x=.str z/\R (Its z) H1
theorem Vi {l:Expr}{tl:TE}(hl:PE X l tl):PI X tg l (TC tl):=by
 intro pins s σ H R I h;refine thn (hl pins s σ H _ I h) fun v s1 ⟨x,H1,I1,r1,q1⟩=>?_;obtain⟨z,e,q⟩:=q1;subst e;obtain⟨t,rfl⟩:=r1;refine wpAny_pyIter_strU ?_;refine⟨s1.heap.objs.size,[s1.heap.objs.size],_,_,H1,Z,I1.kept (t':=s1.toks) fun b o e=>yQ _ e,EL _ z t,⟨_,yN _ Z,Z,Z⟩,fun b hb=>?_,q⟩;have e:b=s1.heap.objs.size:=by simpa using hb
 subst e;exact I1.fpOk (yO _) (I1.hok.fresh (yO _))
theorem L7 {z:Str}{g:TG}{tb:TS}{D:Zc}{σ:St}{H:Hp}(Pv:Nat->St->Hp->Prop)(h0:Pv 0 σ H)
  (hs:∀ i c σ H,z.cps[i]?=some c->Pv i σ H->g (.str ⟨#[c]⟩) σ H fun σ2 H2=>tb { D with nx:=Pv (i+1),ct:=Pv (i+1),bk:=D.nx } σ2 H2) (hd:∀ σ H,Pv z.length σ H->D.nx σ H) :
  ∃ W:Nat->Nat->St->Hp->Prop,(∃ m,W 0 m σ H)/\∀ i m σ H,W i m σ H->
   ((Its z).stop i H/\D.nx σ H)\/((Its z).go i H/\∃ N:St->Hp->Prop,(∀ σ' H',N σ' H'->∃ m',m'<m/\W (i+1) m' σ' H')/\∀ x H',(Its z).yld i H x H'->g x σ H' fun σ2 H2=>tb { D with nx:=N,ct:=N,bk:=D.nx } σ2 H2):=by
 refine⟨fun i m σ H=>m=z.length-i/\i<=z.length/\Pv i σ H,⟨z.length,by simp,xY _,h0⟩,?_⟩;rintro i m σ H ⟨rfl,hi,hp⟩;rcases yb i z.length with c|c;refine .inr ⟨c,Pv (i+1),fun σ' H' q=>⟨z.length-(i+1),by lia,rfl,c,q⟩,?_⟩;rintro x H' ⟨rfl,ch,hc,rfl⟩;exact hs i ch σ _ hc hp;have e:i=z.length:=Nat.le_antisymm hi c;subst e;exact .inl ⟨rfl,hd σ H hp⟩
theorem P9:∀ {zs:List Str} {us:List uT},ZX (zs.map V.str) us->StrsAre us zs
 | [],_,.nil=>.nil
 | z::zs,_,.cons ⟨t,e⟩ r=>by subst e;exact .cons z t (P9 r)
theorem Oj:∀ {l:List (Str×Tok)} ,ZX ((l.map (·.1)).map V.str) (strValues l)
 | []=>.nil
 | (x,t)::l=>.cons ⟨t,rfl⟩ Oj
def JH (K:yS):V->List V->Hp->VK->Prop:=fun x vs H Q=>∃ z p zs,x=.str z/\vs=[.ref p]/\(SqL K H p (zs.map V.str)\/SqT K H p (zs.map V.str))/\(zs.map (·.length)).sum+zs.length*z.length<=16777216/\Q (.str (Txt.join z zs)) H
theorem D6:MtM X "str.join" (JH X.K):=by
 intro pins s σ H x vs v us Q I rx rv h;obtain⟨z,p,zs,rfl,rfl,hS,hz,q⟩:=h;obtain⟨t,rfl⟩:=rx;obtain⟨u,rfl,ru⟩:=rv.one;cases ru;rcases hS with hS|hS;obtain⟨pL,rv,pl,_⟩:=I.list hS;exact join_list pl.isList (by simpa using P9 rv) hz fun t' k=>⟨.str (Txt.join z zs),H,I.tok k,⟨_,rfl⟩,q⟩;obtain⟨pL,rv,pl,_⟩:=I.tuple hS;exact join_tuple pl (by simpa using P9 rv) hz fun t' k=>⟨.str (Txt.join z zs),H,I.tok k,⟨_,rfl⟩,q⟩
def CB:V->List V->Hp->VK->Prop:=fun x vs H Q=>∃ z y,x=.str z/\vs=[.str y]/\0<y.length/\z.length<=1000000/\∀ l,H l=none->Q (.ref l) (upd H l (.lst ((rM z y).map V.str)))
theorem QA:MtM X "str.split" CB:=by
 intro pins s σ H x vs v us Q I rx rv h;obtain⟨z,y,rfl,rfl,hy,hz,q⟩:=h;obtain⟨t,rfl⟩:=rx;obtain⟨u,rfl,t',rfl⟩:=rv.one;have nI:1000002<=uR:=by decide
 have cA:(qD z (ui z y 0 z.length (z.length+1)) y.length).length<=uR:=by
  rw[len_partsBetween];have:=StrLaws.occ_length_le z y 0 z.length (z.length+1);lia
 have pC:(y.length==0)=false:=by
  apply wy.mpr;intro e;have:=tf.mp e;lia
 have fin:∀ (l:List (Str×Tok)) (k:Nat),l.map (·.1)=rM z y->l.length<=uR->EP X pins σ Q (.ref s.heap.objs.size) { s with heap:=s.heap.push { cls:=.type "list",data:=.seq (strValues l).toArray },toks:=k }:=fun l k e hl=>by
  have hv:ZX ((rM z y).map V.str) (strValues l):=by rw[<-e];exact Oj
  exact⟨.ref s.heap.objs.size,_,I.lnew hv (by rw[<-e];simpa using hl),Z,q _ I.fresh⟩
 cases h1:(decide (z.length<y.length)||decide (Builtin.Str.strKind z<Builtin.Str.strKind y));cases hf:(ui z y 0 z.length (z.length+1)).isEmpty;refine qa F.slot_str_split (qb _ _ _) F.entry_str_split (F.args_str_split_2 _ _) (meets_str_split_sep z y t t' h1 pC hf (by lia) cA) ?_;show wants _ _ _ { s with toks:=_,heap:=s.heap.push { cls:=.type "list",data:=.seq (strsFrom s.toks (qD z (ui z y 0 z.length (z.length+1)) y.length)).toArray } };rw[strsFrom_eq];refine fin (numbered s.toks _) _ ((numbered_texts _ _).trans ((uL (pW h1)).trans (uL (pW hf))).symm) ?_;have e:=tX wB (numbered_texts s.toks (qD z (ui z y 0 z.length (z.length+1)) y.length));rw[yK]at e;rw[e];exact cA;exact qa F.slot_str_split (qb _ _ _) F.entry_str_split (F.args_str_split_2 _ _) (meets_str_split_not_found z y t t' h1 pC hf) (fin [(z,t)] s.toks ((uL (pW h1)).trans (uK hf)).symm (by show 1<=uR;decide));exact qa F.slot_str_split (qb _ _ _) F.entry_str_split (F.args_str_split_2 _ _) (meets_str_split_cannot_occur z y t t' h1) (fin [(z,t)] s.toks (uK h1).symm (by show 1<=uR;decide))
def P6:V->List V->Hp->VK->Prop:=fun x vs H Q=>∃ z y i rest,x=.str z/\vs=[.str y]/\ui z y 0 z.length 1=i::rest/\Q (.int (i:Nat)) H
theorem Nr:MtM X "str.index" P6:=by
 intro pins s σ H x vs v us Q I rx rv h;obtain⟨z,y,i,rest,rfl,rfl,ho,q⟩:=h;obtain⟨t,rfl⟩:=rx;obtain⟨u,rfl,t',rfl⟩:=rv.one;exact SC.index ho ⟨.int (i:Nat),H,I.tok _,⟨_,rfl⟩,q⟩
def y6 (te:TE):TE:=fun σ H Q=>te σ H fun x H1=>∃ z,x=.str z/\z.length<=uR/\Q (.str z) H1
theorem LI {e:Expr}{te:TE}{pos:Pos}(he:PE X e te):PE X (.FormattedValue e (-1) none pos) (y6 te):=by
 intro pins s σ H Q I h;refine wpAny_FormattedValue_plain (thn (he pins s σ H _ I h) fun v s1 ⟨x,H1,I1,r1,z,e,hz,q⟩=>?_);subst e;obtain⟨t,rfl⟩:=r1;exact wpAny_formatField_str ⟨.str z,H1,I1,⟨_,rfl⟩,q⟩ ⟨.str z,H1,I1.tok _,⟨_,rfl⟩,q⟩ hz
def OJ (te:TE):TE:=fun σ H Q=>te σ H fun x H1=>∃ i:Int,x=.int i/\i.natAbs.log2<1920/\Q (.str (toString i)) H1
theorem Vv {e:Expr}{te:TE}{pos:Pos}(he:PE X e te):PE X (.FormattedValue e (-1) none pos) (OJ te):=by
 intro pins s σ H Q I h;refine wpAny_FormattedValue_plain (thn (he pins s σ H _ I h) fun v s1 ⟨x,H1,I1,r1,i,e,hz,q⟩=>?_);subst e;obtain⟨t,rfl⟩:=r1;exact wpAny_formatField_int hz ⟨.str (toString i),H1,I1.tok _,⟨_,rfl⟩,q⟩
noncomputable def T2:List TE->Str->TE
 | [],acc=>fun _ H Q=>Q (.str acc) H
 | t::ts,acc=>fun σ H Q=>t σ H fun x H1=>∃ y,x=.str y/\(acc++y).length<=uR/\T2 ts (acc++y) σ H1 Q
inductive T4 (X:Cx):List Expr->List TE->Prop
 | nil:T4 X [] []
 | cons {e:Expr} {t:TE} {es:List Expr} {ts:List TE}:PE X e t->T4 X es ts->T4 X (e::es) (t::ts)
theorem Ol (env:Env):∀ es:List Expr,evalEach es env=es.map fun e=>eval e env
 | []=>rfl
 | e::es=>by
  show eval e env::evalEach es env=_;rw[Ol env es];rfl
theorem My {pins:List (Addr×Obj)}:∀ {es:List Expr} {ts:List TE} {acc:Str} {s:uS} {σ:St} {H:Hp} {Q:VK},T4 X es ts->Inv X pins σ H s->acc.length<=uR->T2 ts acc σ H Q->
  Joins (uM X.prog X.w) X.A X.xe (es.map fun e=>eval e X.env) acc (fun out s₁=>out.length<=uR/\EP X pins σ Q (.str out s₁.toks) { s₁ with toks:=s₁.toks+1 }) s
 | [],_,acc,s,σ,H,Q,.nil,I,hz,h=>⟨hz,.str acc,H,I.tok _,⟨_,rfl⟩,h⟩
 | e::es,_,acc,s,σ,H,Q,.cons h1 hr,I,hz,h=>by
  refine thn (h1 pins s σ H _ I h) fun v s1 ⟨x,H1,I1,r1,y,ex,hy,q⟩=>?_;subst ex;obtain⟨t,rfl⟩:=r1;exact⟨y,t,Z,hy,My hr I1 hy q⟩
theorem Vw {e1 e2:Expr}{es:List Expr}{ts:List TE}{pos:Pos}(h:T4 X (e1::e2::es) ts):PE X (.JoinedStr (e1::e2::es) pos) (T2 ts tu):=by
 intro pins s σ H Q I hw;refine wpAny_JoinedStr ?_;rw[Ol];exact My h I (by decide) hw
end
def VR (B:Heap)(e:Addr)(C:uT)(d:Option Addr)(h:Heap):Prop:=
 ∃ oe vs,h.get? e=some oe/\oe.cls=C/\oe.dict=d/\oe.data=.fields vs/\vs[2]?=some .none/\(vs[1]?=some .none\/∃ T oT ts fl,vs[1]?=some (.ref T)/\B.get? T=none/\T≠e/\h.get? T=some oT/\oT.data=.fields ts/\ts[3]?=some fl)
def WY (B:Heap)(e:Addr)(C:uT)(d:Option Addr)(fl:uT)(h:Heap):Prop:=
 ∃ oe vs T oT ts,h.get? e=some oe/\oe.cls=C/\oe.dict=d/\(oe.data=.fields vs/\vs[2]?=some .none)/\vs[1]?=some (.ref T)/\B.get? T=none/\T≠e/\h.get? T=some oT/\oT.data=.fields ts/\ts[3]?=some fl
theorem WY.at {B h:Heap}{e:Addr}{C fl:uT}{d:Option Addr}(x:WY B e C d fl h):VR B e C d h:=by
 obtain⟨oe,vs,T,oT,ts,h1,h2,h3,h4,h5,h6,h7,h8,h9,eQ⟩:=x;exact⟨oe,vs,h1,h2,h3,h4.1,h4.2,.inr ⟨T,oT,ts,fl,h5,h6,h7,h8,h9,eQ⟩⟩
structure Air (B:Heap)(l:List Env)(e:Addr)(h:Heap):Prop where
 stays:B.StaysIn h
 new:B.get? e=none
 frames:h.FunFrames B l
section
variable {M:Model}{A:uq}{E:uT->uS->Prop}{s:uS}
theorem Jm (o:Obj)(f:Array uT->Array uT):(o.mapFields f).dict=o.dict:=by
 obtain⟨c,d,dt,sl⟩:=o;cases dt<;>rfl
theorem NJ {B:Heap}{env:Env}{outer:List Env}{L e:Addr}{oe:Obj}{vs:Array uT}{head:uT}{had:Bool}{Q:Unit->uS->Prop}
  (fr:A.frames=some (env::outer)) (fl:env.frame=some L) (a:Air B (env::outer) e s.heap) (he:s.heap.get? e=some oe) (hd:oe.data=.fields vs) (eY:vs[2]?=some .none)
  (q:∀ h',Air B (env::outer) e h'->WY B e oe.cls oe.dict (sW L) h'->s.heap.UpToSlots h'->Q () { s with heap:=h' }) :
  uP M A (do let f <-frameOf env;let pl <-entryPlaceOf L had;let b <-EntryCells.newEntry head f .none (sW L) .none pl;setField (.ref e) 1 b) Q E s:=by
 have hz2:2<vs.size:=(xg.mp eY).1;have hz:1<vs.size:=by omega
 have nfr:e∉(env::outer).filterMap (·.frame):=fun z=>by
  obtain⟨_,o,ho,hn⟩:=a.frames.mem z;rw[he]at ho;cases ho;exact hn vs hd
 refine uV (wpAny_frameOf_fun fr a.frames fl fun h1 so=>?_);refine uV (wpAny_entryPlaceOf fun pl oJ=>?_);unfold EntryCells.newEntry newFields;refine uV (tZ ?_ (oJ.sizeOk5 _ _ _ _ _));have jY:h1.get? e=some oe:=by rw[so.2.1 e nfr];exact he
 have dh:B.StaysIn h1:=fun b o hb=>by
  rw[so.2.1 b fun z=>by rw[(a.frames.mem z).1]at hb;cases hb];exact a.stays b o hb
 generalize hrec:({ cls:=.type "traceback",dict:=none,data:=.fields ([head,.ref L,.none,sW L,.none]++(if pl.isEmpty then wF 6 uk else pl)).toArray }:Obj)=rec;have rdat:∃ ts:Array uT,rec.data=.fields ts/\ts[3]?=some (sW L):=by
  refine⟨([head,.ref L,.none,sW L,.none]++(if pl.isEmpty then wF 6 uk else pl)).toArray,by rw[<-hrec],?_⟩;simp
 obtain⟨ts,rd,r3⟩:=rdat;have gk:=yQ (h:=h1) rec jY;refine tD gk hd hz ?_;have nT:h1.objs.size≠e:=w9 (yM jY);have bb:=tT hd (·.setIfInBounds 1 (uI h1.objs.size));have he3:=xW (sj (·.setIfInBounds 1 (uI h1.objs.size))) gk (sX bb);have rnf:rec.isFreed=false:=sX rd;have hT3:((h1.push rec).update e (sj (·.setIfInBounds 1 (uI h1.objs.size)))).get? h1.objs.size=some rec:=by
  rw[yj _ _ (uc nT)];exact yN h1 rnf
 have keep:∀ b o,b≠e->h1.get? b=some o->((h1.push rec).update e (sj (·.setIfInBounds 1 (uI h1.objs.size)))).get? b=some o:=fun b o nb hb=>by
  rw[yj _ _ (uc nb)];exact yQ _ hb
 have ke:∀ b o,s.heap.get? b=some o->(∀ ws,o.data≠.fields ws)->b≠e:=fun b o hb hn z=>by
  rw[z,he]at hb;cases hb;exact hn vs hd
 refine q _ ⟨fun b o hb=>keep b o (fun z=>by rw[z,a.new]at hb;cases hb) (dh b o hb),a.new,a.frames.of_keeps fun b o hb hn=>?_⟩ ?_ fun b o hb hn=>?_;obtain⟨sl,e1⟩:=so.2.2 b o hb;exact⟨_,keep b _ (ke b o hb hn) e1,Z⟩;refine⟨_,_,h1.objs.size,rec,ts,he3,qw _ _,Jm _ _,⟨bb,by rw[wO (by decide)];exact eY⟩,by simp[hz],dh.fresh,nT,hT3,rd,r3⟩;obtain⟨sl,e1⟩:=so.2.2 b o hb;exact⟨sl,keep b _ (ke b o hb hn) e1⟩
theorem MU {B:Heap}{l:List Env}{e T:Addr}{oe oT:Obj}{vs ts:Array uT}{fl v:uT}(a:Air B l e s.heap)(he:s.heap.get? e=some oe)(hd:oe.data=.fields vs)(eY:vs[2]?=some .none)(h1:vs[1]?=some (.ref T))(nT:B.get? T=none)(gI:T≠e)
  (hT:s.heap.get? T=some oT) (jr:oT.data=.fields ts) (h3:ts[3]?=some fl) {Q:Unit->uS->Prop}
  (q:∀ h',Air B l e h'->h'.get? e=some oe->WY B e oe.cls oe.dict v h'->s.heap.UpToSlots h'->Q () { s with heap:=h' }):uP M A (setField (.ref T) 3 v) Q E s:=by
 have z3:3<ts.size:=(xg.mp h3).1;have other:∀ b,b≠T->(s.heap.update T (sj (·.setIfInBounds 3 v))).get? b=s.heap.get? b:=fun b nb=>yj _ _ (uc nb);have ke:∀ b o,s.heap.get? b=some o->(∀ ws,o.data≠.fields ws)->b≠T:=fun b o hb hn z=>by
  rw[z,hT]at hb;cases hb;exact hn ts jr
 have mf:=(other e (uc gI)).trans he;refine tD hT jr z3 (q _ ⟨fun b o hb=>?_,a.new,a.frames.of_keeps fun b o hb hn=>⟨o,(other b (ke b o hb hn)).trans hb,rfl⟩⟩ mf ?_ fun b o hb hn=>⟨o.slots,(other b (ke b o hb hn)).trans hb⟩);exact (other b fun z=>by rw[z,nT]at hb;cases hb).trans (a.stays b o hb);exact⟨oe,vs,T,_,_,mf,Z,Z,⟨hd,eY⟩,h1,nT,gI,xW _ hT (sX (tT jr _)),tT jr _,by simp[z3]⟩
theorem QD {B:Heap}{env:Env}{outer:List Env}{L e:Addr}{C:uT}{d:Option Addr}{Q:Unit->uS->Prop}(fr:A.frames=some (env::outer))(fl:env.frame=some L)(a:Air B (env::outer) e s.heap)(x:VR B e C d s.heap)
  (q:∀ h',Air B (env::outer) e h'->WY B e C d (sW L) h'->s.heap.UpToSlots h'->Q () { s with heap:=h' }):uP M A (pN (.ref e) env) Q E s:=by
 obtain⟨oe,vs,he,rfl,rfl,hd,hz,hv⟩:=x;unfold pN;simp only[fl];rcases hv with hv|⟨T,oT,ts,f0,hv,nT,gI,hT,jr,h3⟩;refine uV (um he hd hv ?_);rw[uL (by decide)];exact NJ fr fl a he hd hz q;refine uV (um he hd hv ?_);rw[uK (show (uI T != uk)=true from by simp)];refine uV (um hT jr h3 ?_);by_cases e0:(f0==sW L)=true;rw[uK e0];have e1:f0=sW L:=by simpa using e0
 subst e1;exact uQ (q s.heap a ⟨oe,vs,T,oT,ts,he,rfl,rfl,⟨hd,hz⟩,hv,nT,gI,hT,jr,h3⟩ (Heap.UpToSlots.refl _));rw[uL e0];refine uV (MU a he hd hz hv nT gI hT jr h3 fun h1 a1 jY _ u1=>?_);exact NJ (s:={ s with heap:=h1 }) fr fl a1 jY hd hz fun h2 a2 x2 u2=>q h2 a2 x2 (u1.trans u2)
theorem Tf {B:Heap}{l:List Env}{e:Addr}{C f0:uT}{d:Option Addr}{o:Option Addr}{Q:Unit->uS->Prop}(a:Air B l e s.heap)(x:WY B e C d f0 s.heap)
  (q:∀ h',Air B l e h'->WY B e C d (o.elim .none fun f=>sW f) h'->s.heap.UpToSlots h'->Q () { s with heap:=h' }):uP M A (setFlight (.ref e) o) Q E s:=by
 obtain⟨oe,vs,T,oT,ts,he,rfl,rfl,⟨hd,eY⟩,hv,nT,gI,hT,jr,h3⟩:=x;unfold setFlight;refine uV (um he hd hv ?_);rw[uK (show (uI T != uk)=true from by simp)];exact MU a he hd eY hv nT gI hT jr h3 fun h' a' _ x' u'=>q h' a' x' u'
theorem Air.tail {B:Heap}{env:Env}{outer:List Env}{e:Addr}{h:Heap}(a:Air B (env::outer) e h):Air B outer e h:=⟨a.stays,a.new,a.frames.2.2⟩
theorem SZ {B:Heap}{env:Env}{outer:List Env}{L e:Addr}{C:uT}{d:Option Addr}{Q:Unit->uS->Prop}(fr:A.frames=some (env::outer))(fl:env.frame=some L)(a:Air B (env::outer) e s.heap)(x:VR B e C d s.heap)
  (q:∀ h',Air B outer e h'->VR B e C d h'->s.heap.UpToSlots h'->Q () { s with heap:=h' }):uP M A (leaving env (.ref e)) Q E s:=by
 unfold leaving;refine uV (QD fr fl a x fun h1 a1 x1 u1=>?_);exact Tf (s:={ s with heap:=h1 }) a1 x1 fun h2 a2 x2 u2=>q h2 a2.tail x2.at (u1.trans u2)
end
structure UnB (fs:List Addr)(H H':Hp)(h B h':Heap):Prop where
 keep:∀ b o,h.get? b=some o->H b=none->b∉fs->B.get? b=some o
 slot:∀ b o,h.get? b=some o->H b=none->b∈fs->∃ sl,h'.get? b=some { o with slots:=sl }
 free:∀ b o,h.get? b=some o->H b=none->H' b=none
 there:∀ b o,h.get? b=some o->b∉fs->∃ o',B.get? b=some o'
 tups:∀ b xs,H b=some (.tup xs)->H' b=some (.tup xs)
 frzs:∀ b o u,H b=some (.frz o u)->H' b=some (.frz o u)
 tbls:∀ b ps,H b=some (.tbl ps)->∃ more,H' b=some (.tbl (ps++more))
structure Fly (P:uE)(w:uw)(outer:List Env)(H:Hp)(s:uS)(C:uT)(d:Option Addr)(H':Hp)(e:Addr)(s':uS):Prop where
 os:s'.os=s.os
 bare:qX s'.gens
 ex:∃ B,Air B outer e s'.heap/\VR B e C d s'.heap/\HOk P w H' B/\UnB (frs outer) H H' s.heap B s'.heap
noncomputable def CX1 (P:uE)(w:uw):CXT:=fun outer H s E ev s'=>∃ e C d H',ev=.ref e/\Fly P w outer H s C d H' e s'/\E C d H'
abbrev vE:List uT:=[.type "ValueError",.type "Exception",.type "BaseException",.type "object"]
def Zk (K:yS)(C:Addr):Prop:=PySem.W.excIn K C vE "ValueError.__new__"=true
theorem Zk.obj {K:yS}{C:Addr}{h:Heap}(q:Zk K C)(k:K.In h) :
  ∃ bm N nm qn bs hd sn sub ab col dd k0 k1 k2 k3 k5 mN,h.get? C=some (excClassObj nm qn C N bs bm hd sn sub ab col dd k0 k1 k2 k3 k5 "ValueError.__new__")/\h.Ns N mN/\mN "__init__"=none/\OwnTail h vE bm:=by
 unfold Zk PySem.W.excIn at q;split at q
 ·rename_i dd cd sl ho;split at q
  ·rename_i C1 bm k0 k1 k2 k3 n k5 hm hs;simp only[yy,tf,u3]at q;obtain⟨⟨⟨⟨⟨e1,e2⟩,hdel⟩,ht⟩,hok⟩,hni⟩:=q;subst e1 e2;cases cd;dsimp only at hm hdel hok hni;subst hm hdel;have esl:sl=#[k0,k1,k2,k3,some (.builtin "ValueError.__new__"),k5]:=by
    cases sl;simp only at hs;rw[hs]
   subst esl;exact⟨bm,_,_,_,_,_,_,_,_,_,dd,k0,k1,k2,k3,k5,_,k _ _ ho,.of_isNs (vf k hok),PySem.W.nsMap_none_of_in k hok hni,PySem.W.tail_of_in k ht⟩
  cases q
 cases q
def Lg (X:Cx)(E:XK):Prop:=∀ (pins:List (Addr×Obj)) (σ:St) (H:Hp) (s:uS) (h':Heap) (e:Addr) (C:uT) (args:List uT),Inv X pins σ H s->vP s.heap h' e C args->E C none H->X.xe (.ref e) { s with heap:=h' }
def Pq (ta:TA)(C:Addr)(E:XK):TS:=fun _ σ H=>ta σ H fun vs H1=>vs.length<=uR/\E (.ref C) none H1
section
variable {X:Cx}{x:Str}{C:Addr}{e₀:Expr}{rest:List Expr}{ta:TA}{E:XK}{np pB pos:Pos}
theorem Ys (hc:X.calm=true)(hC:Zk X.K C)(hg:Gl X x)(hm:X.mg x=some (.ref C))(ht:Lg X E)(ha:PA X (e₀::rest) ta)(oQ:(x==("__debug__":Str))=false:=by decide)
  (he:uB (e₀::rest) X.env=(false,eval e₀ X.env)::uB rest X.env:=by rfl) (oJ:(sL pB (uB rest X.env)).any (·.1)=false:=by rfl) :
  PS X (.Raise (some (.Call (.Name x np) (e₀::rest) [] pB)) none pos) (Pq ta C E):=by
 intro pins s σ H D I h;obtain⟨bm,N,nm,qn,bs,hd,sn,sub,ab,col,dd,k0,k1,k2,k3,k5,mN,oC,nN,ni,TL⟩:=hC.obj I.mod.kin;have FB:=rO;refine wpAny_Raise_call_subT (C:=C) (nm:=nm) (q:=qn) (N:=N) (bs:=bs) (bm:=bm) (hdct:=hd) (sn:=sn) (sub:=sub) (ab:=ab) (col:=col) (dd:=dd) (k0:=k0) (k1:=k1) (k2:=k2) (k3:=k3) (k5:=k5)
  FB (mN:=mN) (TL.hasType FB.hasBase) (I.ok.hd hc) (by rw[he];show (false||(sL pB (uB rest X.env)).any (·.1))=false;rw[oJ];rfl) ni (Xz I hg hm ⟨rfl,?_⟩ oQ)
 have hA:=ha pB pins s σ H _ I h;rw[he]at hA ⊢;refine Calls.evalArgs_plain (thn hA fun us s2 ⟨vs,H2,I2,r2,hz,q2⟩=>⟨rfl,by rw[<-r2.length];exact hz,I2.bk _ _ oC,nN.keeps I2.bk,TL.keeps I2.bk,fun h' e hm=>ht pins σ H2 s2 h' e _ _ I2 hm q2⟩)
end
theorem Qo {P:uE}{w:uw}{H:Hp}{h:Heap}{l:List Addr}(x:HOk P w H h)(fr:∀ b∈l,H b=none):HOk P w H (xA h l):=fun b u e=>by
 refine (x b u e).stay (fun c v hc q=>xF _ q fun z=>?_) (fun _ q=>q) fun _ _ q=>q;rcases hc with hc|hc;rw[hc]at z;rw[fr b z]at e;cases e;rw[fr c z]at hc;cases hc
theorem UnB.un {fs:List Addr}{H H':Hp}{h B h':Heap}(u:UnB fs H H' h B h')(st:B.StaysIn h')(fr:∀ b∈fs,H b=none):Un fs [] H H' h h' where
 keep:=fun b o q n hb _=>st _ _ (u.keep b o q n hb)
 slot:=fun b o q n hb _=>u.slot b o q n hb
 free:=fun b o q n _=>u.free b o q n
 there:=fun b o q _=>by
  by_cases hb:b∈fs;obtain⟨sl,e⟩:=u.slot b o q (fr b hb) hb;exact⟨_,e⟩;obtain⟨o',e⟩:=u.there b o q hb;exact⟨o',st _ _ e⟩
 tups:=u.tups
 frzs:=u.frzs
 tbls:=u.tbls
section
variable {P:uE}{w:uw}{K:yS}{mg:Str->Option uT}{base:Heap}{N:List Str}{qual:Str}{scope:rX}{f:Addr}{cd:uT}{A:uq}{outer:List Env}{s:uS}{H:Hp}{E E':XK}
theorem Qr {env:Env}{l:List Env}{L:Addr}(h:env.frame=some L):frs (env::l)=L::frs l:=by unfold frs;rw[wk,h]
theorem UnB.after {X:Cx}{pins:List (Addr×Obj)}{σ:St}{Hc H':Hp}{sc:uS}{B h' h2:Heap}{e:Addr}(I:Inv X pins σ Hc sc)(hex:X.ex=[])(oK:X.stack=X.env::X.outer)(lB:X.env.frame=some X.env.locals)
  (a:Air B X.stack e h') (u:UnB (frs X.stack) Hc H' sc.heap B h') (up:h'.UpToSlots h2):UnB (frs X.outer) X.H₀ H' X.s₀.heap B h2:=by
 have mz:∀ b:Addr,b∉X.ex:=fun b z=>by rw[hex]at z;cases z
 have bu:frs X.stack=X.env.locals::frs X.outer:=by rw[oK,Qr lB]
 have old:∀ b o,X.s₀.heap.get? b=some o->b∉frs X.outer->b∉frs X.stack:=fun b o q hb z=>by
  rw[bu]at z;rcases yl.mp z with z|z;have l1:=yM q;rw[z]at l1;exact absurd (yz l1 I.ok.above) (xN _);exact hb z
 have fF:∀ b,b∈frs X.outer->b∈frs X.stack:=fun b hb=>by rw[bu];exact yx _ hb
 exact {
  keep:=fun b o q n hb=>u.keep b o (I.base.keep b o q n hb (mz b)) (I.base.free b o q n (mz b)) (old b o q hb)
  slot:=fun b o q n hb=>by
   obtain⟨sl,e1⟩:=I.base.slot b o q n hb (mz b)
   obtain⟨kh,e2⟩:=u.slot b _ e1 (I.base.free b o q n (mz b)) (fF b hb)
   obtain⟨_,o3,e3,nf⟩:=a.frames.mem (fF b hb)
   have:o3={ ({ o with slots:=sl }:Obj) with slots:=kh }:=by rw[e2]at e3;exact (uz.inj e3).symm
   subst this
   obtain⟨sl3,e4⟩:=up b _ e2 nf
   exact⟨sl3,e4⟩
  free:=fun b o q n=>by
   obtain⟨o1,e1⟩:=I.base.there b o q (mz b)
   exact u.free b o1 e1 (I.base.free b o q n (mz b))
  there:=fun b o q hb=>by
   obtain⟨o1,e1⟩:=I.base.there b o q (mz b)
   exact u.there b o1 e1 (old b o q hb)
  tups:=fun b xs q=>u.tups b xs (I.base.tups b xs q)
  frzs:=fun b o v q=>u.frzs b o v (I.base.frzs b o v q)
  tbls:=fun b ps q=>by
   obtain⟨m1,e1⟩:=I.base.tbls b ps q
   obtain⟨m2,e2⟩:=u.tbls b _ e1
   exact⟨m1++m2,by rw[e2,vh]⟩ }
theorem Zx (hE:∀ C d H',E' C d H'->E C d H'):YE (CX1 P w) (Zb (CX1 P w) P w K mg base N qual scope f cd A outer s H E) E':=by
 rintro pins σ Hc sc ev s' I ⟨e,C,d,H',rfl,mF,hq⟩;obtain⟨B,a,x,hok,u⟩:=mF.ex;refine SZ (B:=B) (L:=s.heap.objs.size) I.ok.frames rfl a x fun h2 a2 x2 up=>?_;exact⟨e,C,d,H',Z,⟨mF.os.trans I.os,mF.bare,B,a2,x2,hok,UnB.after I Z Z Z a u up⟩,hE _ _ _ hq⟩
theorem Fp {X:Cx}{pins:List (Addr×Obj)}{σ:St}{Hc:Hp}{sc:uS}{h':Heap}{e:Addr}{C:uT}{args:List uT}(I:Inv X pins σ Hc sc)(m:vP sc.heap h' e C args) :
  ∃ B,Air B X.stack e h'/\VR B e C none h'/\HOk X.prog X.w Hc B/\UnB (frs X.stack) Hc Hc sc.heap B h':=by
 have fr:=I.stkFree;refine⟨xA sc.heap (frs X.stack),⟨fun b o q=>m.keeps _ _ (xc _ q),?_,?_⟩,?_,Qo I.hok fr,?_⟩
 ·cases q:(xA sc.heap (frs X.stack)).get? e with
  | none=>rfl
  | some o=>
   have:=xc _ q;rw[m.new]at this;cases this
 refine (PySem.W.funFrames_hide I.stack fun env he a ha=>wc.mpr ⟨env,he,ha⟩).of_keeps fun b o q _=>⟨o,m.keeps _ _ q,rfl⟩;obtain⟨t,he,_,_⟩:=m.there;exact⟨_,_,he,Z,Z,Z,by simp,.inl Z⟩;exact⟨fun b o q _ hb=>xF _ q hb,fun b o q _ _=>⟨o.slots,m.keeps _ _ q⟩,fun _ _ _ n=>n,fun b o q hb=>⟨o,xF _ q hb⟩,fun _ _ q=>q,fun _ _ _ q=>q,fun _ ps q=>⟨#[],by simpa using q⟩⟩
theorem Yp:Lg (Zb (CX1 P w) P w K mg base N qual scope f cd A outer s H E) E:=by
 intro pins σ Hc sc h' e C args I m hq;obtain⟨B,a,x,hok,u⟩:=Fp I m;refine SZ (s:={ sc with heap:=h' }) (B:=B) (L:=s.heap.objs.size) I.ok.frames rfl a x fun h2 a2 x2 up=>?_;exact⟨e,C,none,Hc,Z,⟨I.os,I.bare,B,a2,x2,hok,UnB.after I Z Z Z a u up⟩,hq⟩
end
theorem Fun.ok1 {P:uE}{w:uw}{K:yS}{mg:Str->Option uT}{base:Heap}{x qual:Str}{st:Stmt}{f:Addr}{fd:uC}{N ps:List Str}{k:Nat}{sp:Sp}(F:Fun K x qual st f fd)(S:ZT N ps (Z2 st))(len:∀ vs H Q E,sp vs H Q E->vs.length=ps.length)
  (oS:∀ (pK:uT) (A:uq) (outer:List Env) (s:uS) (H:Hp) (vs:List V) (Q:VK) (E:XK),ZK k (A.deeper (rC qual (Z2 st) s.heap.objs.size f pK))->sp vs H Q E->
   ∃ t,PSs (Zb (CX1 P w) P w K mg base N qual (Z2 st) f pK A outer s H E) (Zi st) t/\t { nx:=fun _ H'=>Q .non H',rt:=Q } (start N vs) H):Z6 P w K mg base (CX1 P w) (k+1) f fd ps sp:=by
 obtain⟨oc,od,kV,doc,pm,an,pK,ct,oR,rfl,lk,oP⟩:=F.ex;exact O7 lk oP S len fun A outer s H vs Q E hr ou=>oS pK A outer s H vs Q E hr ou
abbrev Cx.tr (X:Cx)(pn:List (Addr×Obj))(W:uT->uS->Prop):Cx:={ X with pn:=pn,xe:=W }
noncomputable abbrev Cx.su (X:Cx)(pn:List (Addr×Obj))(e:Addr):Cx:={ X with A:=X.A.mark (some (.ref e)),calm:=false,pn:=pn,xe:=fun _ _=>False }
section
variable {X:Cx}{pins:List (Addr×Obj)}{σ:St}{H:Hp}{s:uS}{W:uT->uS->Prop}{e:Addr}
theorem Inv.tr (I:Inv X pins σ H s):Inv (X.tr (X.pn++pins) W) [] σ H s:=
 ⟨⟨I.ok.mod,I.ok.kind,I.ok.glob,I.ok.blt,I.ok.above,I.ok.inj,I.ok.has,I.ok.cab,I.ok.hd,I.ok.frames,I.ok.stk,I.ok.exf,I.ok.bs,I.ok.bsz,I.ok.noex,I.ok.exfs,I.ok.funs,I.ok.frf⟩,I.os,I.bare,I.base,I.loc,I.cell,I.free,I.freeC,fun p hp=>I.pin p (by simpa using hp),I.hok,I.len⟩
theorem Inv.untr {pI:List (Addr×Obj)}(I:Inv (X.tr (X.pn++pins) W) pI σ H s):Inv X pins σ H s:=
 ⟨⟨I.ok.mod,I.ok.kind,I.ok.glob,I.ok.blt,I.ok.above,I.ok.inj,I.ok.has,I.ok.cab,I.ok.hd,I.ok.frames,I.ok.stk,I.ok.exf,I.ok.bs,I.ok.bsz,I.ok.noex,I.ok.exfs,I.ok.funs,I.ok.frf⟩,I.os,I.bare,I.base,I.loc,I.cell,I.free,I.freeC,fun p hp=>I.pin p (xP _ hp),I.hok,I.len⟩
theorem Inv.su (I:Inv X pins σ H s):Inv (X.su (X.pn++pins) e) [] σ H s:=
 ⟨⟨I.ok.mod,I.ok.kind,I.ok.glob,I.ok.blt,I.ok.above,I.ok.inj,I.ok.has,I.ok.cab,fun z=>(nomatch z),I.ok.frames,I.ok.stk,I.ok.exf,I.ok.bs,I.ok.bsz,I.ok.noex,I.ok.exfs,I.ok.funs,I.ok.frf⟩,I.os,I.bare,I.base,I.loc,I.cell,I.free,I.freeC,fun p hp=>I.pin p (by simpa using hp),I.hok,I.len⟩
theorem Inv.unsu (hc:X.calm=true)(hd:X.A.handled=none){pI:List (Addr×Obj)}(I:Inv (X.su (X.pn++pins) e) pI σ H s):Inv X pins σ H s:=
 ⟨⟨I.ok.mod,I.ok.kind,I.ok.glob,I.ok.blt,I.ok.above,I.ok.inj,I.ok.has,I.ok.cab,fun _=>hd,I.ok.frames,I.ok.stk,I.ok.exf,I.ok.bs,I.ok.bsz,I.ok.noex,I.ok.exfs,I.ok.funs,I.ok.frf⟩,I.os,I.bare,I.base,I.loc,I.cell,I.free,I.freeC,fun p hp=>I.pin p (xP _ hp),I.hok,I.len⟩
theorem Sk {M:Model}{A:uq}{E:uT->uS->Prop}{j:Nat}{n:Str}{pos:Pos}{Q:Unit->uS->Prop}(I:Inv X pins σ H s)(hN:X.N.Nodup)(hj:X.N[j]?=some n)(hx:X.env.scope.names.lookup n=some .local)
  (q:∀ s',Inv X pins (σ.set j none) H s'->Q () s'):uP M A (do bindName X.env n .none;unbindBehindTheSuite X.env n pos) Q E s:=by
 obtain⟨m,hn,hl⟩:=id I.loc;have gf:(X.env.scope.kind == .class||(X.env.scope.kind == .module&&X.env.locals != X.env.globals))=false:=by rw[I.ok.kind];rfl
 refine wpAny_nameGoes_keeps hx hn gf fun h' v hn' hs=>?_;obtain⟨oL,_,_,hoL,_⟩:=id hn;have ne:∀ b o,X.s₀.heap.get? b=some o->b≠X.env.locals:=fun b o e=>yv (yz (yM e) I.ok.above);refine q _ ⟨I.ok,I.os,I.bare,⟨fun b o e n hb hx=>?_,fun b o e n hb hx=>?_,I.base.free,fun b o e hx=>?_,I.base.tups,I.base.frzs,I.base.tbls⟩,⟨_,hn',fun i y v' e1 e2 e3=>?_⟩,fun y c e=>?_,I.free,I.freeC,fun p hp=>?_,fun b ob e=>?_,by simpa using I.len⟩;rw[hs.2 b (ne b o e)];exact I.base.keep b o e n hb hx;obtain⟨sl,e1⟩:=I.base.slot b o e n hb hx;exact⟨sl,by rw[hs.2 b (ne b o e)];exact e1⟩;obtain⟨o',e1⟩:=I.base.there b o e hx;exact⟨o',by rw[hs.2 b (ne b o e)];exact e1⟩;have gm:i≠j:=fun z=>by
  rw[z]at e2;by_cases pJ:j<σ.length;rw[xh pJ]at e2;cases e2;rw[xO (by simpa using pJ)]at e2;cases e2
 rw[wV (uc gm)]at e2;obtain⟨u',r',l'⟩:=hl i y v' e1 e2 e3;refine⟨u',r',?_⟩;rcases l' with ⟨k,e⟩|⟨k,c,e,z⟩;have:y≠n:=fun z=>gm (Qq hN e1 (z ▸ hj));exact .inl ⟨k,by simp[this,e]⟩;exact .inr ⟨k,c,e,z.sameBut hs (I.cne y c e)⟩;obtain⟨w',z⟩:=I.cell y c e;exact⟨w',z.sameBut hs (I.cne y c e)⟩;obtain⟨e,n,ne',nf,d⟩:=I.pin p hp;exact⟨by rw[hs.2 p.1 ne'];exact e,n,ne',nf,d⟩;refine (I.hok b ob e).stay (fun c w' hc q=>(hs.2 c ?_).trans q) (fun _ q=>q) fun _ _ q=>q;intro z;rcases hc with hc|hc;rw[<-hc,z,I.free]at e;cases e;rw[z,I.free]at hc;cases hc
noncomputable def exO (e:Addr)(C:uT)(d:Option Addr):HO:=.ext fun h=>∃ o vs,h.get? e=some o/\o.cls=C/\o.dict=d/\o.data=.fields vs/\vs[2]?=some .none
theorem A7 {P:uE}{w:uw}{H:Hp}{h:Heap}{C:uT}{d:Option Addr}(x:∃ o vs,h.get? e=some o/\o.cls=C/\o.dict=d/\o.data=.fields vs/\vs[2]?=some .none):ZC P w H h e (exO e C d):=by
 obtain⟨o,vs,h1,h2,h3,h4⟩:=id x;exact⟨x,⟨o,h1⟩,fun g1 g2 ⟨o',vs',q1,q2⟩ k=>⟨o',vs',k _ q1,q2⟩⟩
end
theorem Ii {M:Model}{A:uq}{E:uT->uS->Prop}{s:uS}{K:yS}{e D:Addr}{o:Obj}{C:uT}{b:Bool}{Q:Bool->uS->Prop}(k:K.In s.heap)(he:s.heap.get? e=some o)(hc:o.cls=C)
  (h1:wY K (.ref D)=some (.type "type")) (h2:(wZ K D).isSome=true) (h3:xR K (.ref D) (.type "BaseException")=some true) (h4:xR K C (.ref D)=some b) (q:Q b s):uP M A (excMatches (.ref e) (.ref D)) Q E s:=by
 have L1:vZ M s.heap (typeOf (.ref D)) (.type "type"):=PySem.W.looks_typeIn k h1;have L2:vZ M s.heap (isType (.ref D)) true:=by
  unfold wZ at h2;split at h2
  ·rename_i ho;intro A' Q' E' s' kk z;unfold isType loadHead;exact uV (wpAny_loadPart (kk _ _ (k _ _ ho)) (uQ z))
  cases h2
 have L3:vZ M s.heap (isSubtype (.ref D) (.type "BaseException")) true:=vq k h3;have L4:vZ M s.heap (isSubtype C (.ref D)) b:=vq k h4;have L5:vZ M s.heap (typeOf (.ref e)) C:=hc ▸ (PySem.W.Looks.ld he).andThen .now;have nt:=tc_notTuple;unfold excMatches qy;refine uV (uV (L1.at ?_));rw[nt];refine uQ ?_;refine uV (uQ ?_);dsimp only;refine uV ?_;rw[wA];unfold isExcClass;refine uV (uV (uV (L2.at ?_)));rw[uK rfl];refine L3.at ?_;refine uQ ?_;dsimp only;rw[u9];refine uQ ?_;refine uV (L5.at ?_);refine uV ?_;rw[wA];refine uV (uV (L4.at ?_));cases b with
 | true=>exact uQ (uQ (uQ q))
 | false=>
  refine uQ ?_;dsimp only;rw[u9];exact uQ (uQ q)
theorem ZC.obj {P:uE}{w:uw}{H:Hp}{h:Heap}{a:Addr}{o:HO}(x:ZC P w H h a o):∃ ob,h.get? a=some ob:=by
 cases o with
 | lst xs=>obtain⟨_,_,_,_,e⟩:=x;exact⟨_,e⟩
 | tup xs=>obtain⟨_,_,_,ob,e,_⟩:=x;exact⟨_,e⟩
 | dK kvs=>obtain⟨_,_,_,_,o,_,_,e,_⟩:=x;exact⟨_,e⟩
 | dT kvs=>obtain⟨_,_,_,_,o,_,_,e,_⟩:=x;exact⟨_,e⟩
 | set S n=>obtain⟨o,_,_,_,e,_⟩:=x;exact⟨_,e⟩
 | ins C dx fs=>obtain⟨_,_,_,e,_⟩:=x;exact⟨_,e⟩
 | own y=>obtain⟨_,e⟩:=x;exact⟨_,e⟩
 | xd fs=>obtain⟨_,⟨_,_,_,e,_⟩,_⟩:=x;exact⟨_,e⟩
 | rng lo hi=>obtain⟨_,_,_,e⟩:=x;exact⟨_,e⟩
 | frz ob u=>obtain⟨e,_⟩:=x;exact⟨_,e⟩
 | tbl ps=>exact⟨_,(show h.get? a=some _ from x)⟩
 | met f y=>exact⟨_,(show h.get? a=some _ from x)⟩
 | ext φ=>obtain⟨_,⟨_,e⟩,_⟩:=x;exact⟨_,e⟩
structure WR (X:Cx)(pins:List (Addr×Obj))(σ:St)(H:Hp)(C:uT)(d:Option Addr)(e:Addr)(s:uS):Prop where
 ex:∃ Hc sc B fl,Inv X pins σ Hc sc/\s.os=sc.os/\qX s.gens/\Air B X.stack e s.heap/\WY B e C d fl s.heap/\HOk X.prog X.w H B/\UnB (frs X.stack) Hc H sc.heap B s.heap
section
variable {X:Cx}{pins:List (Addr×Obj)}{σ:St}{H:Hp}{C:uT}{d:Option Addr}{e:Addr}{s:uS}
theorem UnB.up {fs:List Addr}{H H':Hp}{h B h1 h2:Heap}{l:List Env}{e:Addr}(u:UnB fs H H' h B h1)(a:Air B l e h1)(hl:frs l=fs)(up:h1.UpToSlots h2):UnB fs H H' h B h2:=
 ⟨u.keep,fun b o q n hb=>by
  obtain⟨sl,e1⟩:=u.slot b o q n hb
  obtain⟨_,o3,e3,nf⟩:=a.frames.mem (show b∈frs l by rw[hl];exact hb)
  rw[e1]at e3
  cases e3
  obtain⟨kh,e4⟩:=up b _ e1 nf
  exact⟨kh,e4⟩,u.free,u.there,u.tups,u.frzs,u.tbls⟩
theorem WR.inv (x:WR X pins σ H C d e s):Inv X pins σ H s:=by
 obtain⟨Hc,sc,B,fl,I,ho,hb,a,_,hok,u⟩:=x.ex;exact I.call' (ch:=[]) ho (u.un a.stays I.stkFree) (hok.kept a.stays) hb fun b z=>absurd z (by simp)
theorem WR.apart (x:WR X pins σ H C d e s):H e=none/\(∀ o,X.s₀.heap.get? e=some o->e∈X.ex)/\e≠X.env.locals/\(∀ y c,X.env.cells.lookup y=some c->c≠e)/\(∀ p∈X.pn++pins,p.1≠e):=by
 obtain⟨Hc,sc,B,fl,I,ho,hb,a,⟨oe,vs,T,oT,ts,he,_,_,⟨hd,_⟩,_⟩,hok,u⟩:=x.ex;have nfr:e∉frs X.stack:=fun z=>by
  obtain⟨_,o,q,nf⟩:=a.frames.mem z;rw[he]at q;cases q;exact nf _ hd
 have aq:sc.heap.get? e=none:=by
  cases q:sc.heap.get? e with
  | none=>rfl
  | some o=>
   obtain⟨o',z⟩:=u.there e o q nfr;rw[a.new]at z;cases z
 refine⟨?_,fun o q=>?_,fun z=>?_,fun y c q z=>?_,fun p hp z=>?_⟩
 ·cases q:H e with
  | none=>rfl
  | some o=>
   obtain⟨ob,z⟩:=(hok e o q).obj;rw[a.new]at z;cases z
 by_cases hx:e∈X.ex;exact hx;obtain⟨o',z⟩:=I.base.there e o q hx;rw[aq]at z;cases z;obtain⟨m,⟨o,_,_,q,_⟩,_⟩:=I.loc;rw[<-z,aq]at q;cases q;obtain⟨v,o,q2,_⟩:=I.cell y c q;rw[z,aq]at q2;cases q2;obtain⟨q,_⟩:=I.pin p hp;rw[z,aq]at q;cases q
theorem WR.track (x:WR X pins σ H C d e s):Inv X pins σ (upd H e (exO e C d)) s:=by
 have I:=x.inv;obtain⟨n,old,nl,nc,np⟩:=x.apart;have ob:∃ o vs,s.heap.get? e=some o/\o.cls=C/\o.dict=d/\o.data=.fields vs/\vs[2]?=some .none:=by
  obtain⟨_,_,_,_,_,_,_,_,⟨oe,vs,T,oT,ts,h1,h2,h3,⟨h4,h5⟩,_⟩,_⟩:=x.ex;exact⟨oe,vs,h1,h2,h3,h4,h5⟩
 refine⟨I.ok,I.os,I.bare,⟨I.base.keep,I.base.slot,fun b o q nb hx=>?_,I.base.there,fun b xs q=>?_,fun b o v q=>?_,fun b ps q=>?_⟩,I.loc,I.cell,?_,fun y c q=>?_,fun p hp=>?_,fun b o q=>?_,I.len⟩;have i3:b≠e:=fun z=>by
  subst z;exact hx (old o q)
 rw[Z5 i3];exact I.base.free b o q nb hx;have q2:=I.base.tups b xs q;rw[Z5 (ZJ q2 n)];exact q2;have q2:=I.base.frzs b o v q;rw[Z5 (ZJ q2 n)];exact q2;obtain⟨m,q2⟩:=I.base.tbls b ps q;exact⟨m,by rw[Z5 (ZJ q2 n)];exact q2⟩;rw[Z5 (uc nl)];exact I.free;rw[Z5 (nc y c q)];exact I.freeC y c q;obtain⟨q1,q2,q3⟩:=I.pin p hp;exact⟨q1,by rw[Z5 (np p hp)];exact q2,q3⟩;by_cases hb:b=e;subst hb;rw[Z0]at q;cases q;exact A7 ob;rw[Z5 hb]at q;exact (I.hok b o q).stay (fun _ _ _ z=>z) (fun c z=>by rw[Z5 (ZJ z n)];exact z) fun c xs z=>by rw[Z5 (ZJ z n)];exact z
end
noncomputable abbrev TH:=uT->Option Addr->Zc->St->Hp->Prop
def PH (X:Cx)(hs:List ExceptHandler)(t:TH):Prop:=∀ (pins:List (Addr×Obj)) (s:uS) (σ:St) (H:Hp) (D:Zc) (C:uT) (d:Option Addr) (e:Addr),WR X pins σ H C d e s->t C d D σ H->
 uP (uM X.prog X.w) X.A (handleBy (.ref e) X.env hs) (SP X pins D) X.xe s
structure HCls (K:yS)(D:Addr):Prop where
 ty:wY K (.ref D)=some (.type "type")
 cl:(wZ K D).isSome=true
 ex:xR K (.ref D) (.type "BaseException")=some true
def hNil:TH:=fun _ _ _ _ _=>False
noncomputable def Zc.go (D:Zc)(j:Nat):Zc:={ nx:=fun σ H=>D.nx (σ.set j none) H,rt:=D.rt,bk:=fun σ H=>D.bk (σ.set j none) H,ct:=fun σ H=>D.ct (σ.set j none) H }
def hAs (K:yS)(A:Addr)(j:Nat)(ts:Addr->TS)(tr:TH):TH:=fun C d D σ H=>∃ b,xR K C (.ref A)=some b/\if b=true then ∀ e,H e=none->ts e (D.go j) (σ.set j (some (.ref e))) (upd H e (exO e C d)) else tr C d D σ H
section
variable {X:Cx}{x n:Str}{DA:Addr}{j:Nat}{b₀:Stmt}{iI:List Stmt}{ts:Addr->TS}{tr:TH}{np j6 pos:Pos}{rest:List ExceptHandler}
theorem Cq:PH X [] hNil:=fun _ _ _ _ _ _ _ _ _ h=>h.elim
theorem JZ (hc:X.calm=true)(hC:HCls X.K DA)(hg:Gl X x)(hm:X.mg x=some (.ref DA))(hN:X.N.Nodup)(hj:X.N[j]?=some n)(hx:X.env.scope.names.lookup n=some .local)(hs:∀ pn e,PSs (X.su pn e) (b₀::iI) (ts e))(hr:PH X rest tr)
  (oQ:(x==("__debug__":Str))=false:=by decide):PH X (.ExceptHandler (some (.Name x np)) (some n) (b₀::iI) j6::rest) (hAs X.K DA j ts tr):=by
 intro pins s σ H D C d e hl h;obtain⟨b,hb,h⟩:=h;have I:=hl.inv;have Is:Inv (X.su (X.pn++pins) e) [] σ H s:=I.su;obtain⟨oe,vs,h1,h2,_⟩:∃ o vs,s.heap.get? e=some o/\o.cls=C/\o.dict=d/\o.data=.fields vs/\vs[2]?=some .none:=by
  obtain⟨_,_,_,_,_,_,_,_,⟨oe,vs,T,oT,ts,h1,h2,h3,⟨h4,h5⟩,_⟩,_⟩:=hl.ex;exact⟨oe,vs,h1,h2,h3,h4,h5⟩
 refine wpAny_handleBy_cons (codeAny_handlers_test (Xz Is hg hm ?_ oQ)) (by intro q;cases q);refine Ii I.kIn h1 h2 hC.ty hC.cl hC.ex hb ?_;cases b with
 | false=>exact hr pins s σ H D C d e hl (by simpa using h)
 | true=>
  have h:∀ e,H e=none->ts e (D.go j) (σ.set j (some (.ref e))) (upd H e (exO e C d)):=by simpa using h
  refine codeAny_handlers_suite_as ?_;obtain⟨Hc,sc,B,f0,I0,ho,hbr,a,xo,hok,u⟩:=hl.ex;refine Tf (o:=none) a xo fun h2 a2 x2 up=>?_;have nu:WR X pins σ H C d e { s with heap:=h2 }:=⟨Hc,sc,B,_,I0,ho,hbr,a2,x2,hok,u.up a rfl up⟩;have I2:Inv (X.su (X.pn++pins) e) [] σ (upd H e (exO e C d)) { s with heap:=h2 }:=nu.track.su;refine SI (X:=X.su (X.pn++pins) e) I2 hN hj (.inl hx) (v:=.ref e) rfl (fun s3 I3=>?_) (.inr hx);refine uA (hs (X.pn++pins) e [] s3 _ _ (D.go j) I3 (h e hl.apart.1)) (fun f s4 hf=>?_) fun _ _ z=>z.elim;have hd:=I.ok.hd hc;cases f with
  | next=>
   obtain⟨σ4,H4,I4,q⟩:=hf;exact Sk (Inv.unsu hc hd I4) hN hj hx fun s5 I5=>⟨_,H4,I5,q⟩
  | brk=>
   obtain⟨σ4,H4,I4,q⟩:=hf;exact Sk (Inv.unsu hc hd I4) hN hj hx fun s5 I5=>⟨_,H4,I5,q⟩
  | cont=>
   obtain⟨σ4,H4,I4,q⟩:=hf;exact Sk (Inv.unsu hc hd I4) hN hj hx fun s5 I5=>⟨_,H4,I5,q⟩
  | ret uv=>
   obtain⟨v,σ4,H4,I4,rv,q⟩:=hf;exact Sk (Inv.unsu hc hd I4) hN hj hx fun s5 I5=>⟨v,_,H4,I5,rv,q⟩
end
def Qm (CX:CXT)(X:Cx)(E:XK)(σ:St):Prop:=∀ (pins:List (Addr×Obj)) (H:Hp) (s:uS) (e:uT) (s':uS),Inv X pins σ H s->CX X.stack H s E e s'->X.xe e s'
def PE1 (X:Cx)(σ:St)(e:Expr)(t:TE):Prop:=∀ (pins:List (Addr×Obj)) (s:uS) (H:Hp) (Q:VK),Inv X pins σ H s->t σ H Q->uP (uM X.prog X.w) X.A (eval e X.env) (EP X pins σ Q) X.xe s
def PS1 (X:Cx)(σ:St)(st:Stmt)(t:TS):Prop:=∀ (pins:List (Addr×Obj)) (s:uS) (H:Hp) (D:Zc),Inv X pins σ H s->t D σ H->uP (uM X.prog X.w) X.A (exec st X.env) (SP X pins D) X.xe s
section
variable {X:Cx}{CX:CXT}{k:Nat}{f:Addr}{fd:uC}{ps:List Str}{sp:Sp}{oY:List V}{ds:List uT}{E:XK}{x:Str}{p pos:Pos}{e:Expr}{es:List Expr}{t:TA}{te:TE}{σ:St}
theorem Fd (he:PE1 X σ e te)(hs:rW e none pos.line X.env=pure false:=by rfl):PS1 X σ (.Expr e pos) (Kj te):=by
 intro pins s H D I h;exact wpAny_Expr_any (thn (he pins s H _ I h) fun v s1 ⟨y,H1,I1,r1,q1⟩=>⟨σ,H1,I1,q1⟩) I.quiet hs
end
def tTry (tb:XK->TS)(th:TH):TS:=fun D σ H=>∃ E:XK,tb E D σ H/\∀ C d H',E C d H'->th C d D σ H'
theorem SP.untr {X:Cx}{pins:List (Addr×Obj)}{W:uT->uS->Prop}{D:Zc}{f:Flow}{s:uS}(h:SP (X.tr (X.pn++pins) W) [] D f s):SP X pins D f s:=by
 cases f with
 | next=>obtain⟨σ,H,I,q⟩:=h;exact⟨σ,H,I.untr,q⟩
 | brk=>obtain⟨σ,H,I,q⟩:=h;exact⟨σ,H,I.untr,q⟩
 | cont=>obtain⟨σ,H,I,q⟩:=h;exact⟨σ,H,I.untr,q⟩
 | ret u=>obtain⟨v,σ,H,I,r,q⟩:=h;exact⟨v,σ,H,I.untr,r,q⟩
theorem AO {X:Cx}{st:Stmt}{h₀:ExceptHandler}{hs:List ExceptHandler}{tb:XK->TS}{th:TH}{pos:Pos}(oK:X.stack=X.env::X.outer)(lB:X.env.frame=some X.env.locals)
  (hb:∀ E σ pn W,Qm (CX1 X.prog X.w) (X.tr pn W) E σ->PS1 (X.tr pn W) σ st (tb E)) (hh:PH X (h₀::hs) th):PS X (.Try [st] (h₀::hs) [] [] pos) (tTry tb th):=by
 intro pins s σ H D I h;obtain⟨E,hB,hH⟩:=h;refine wpAny_Try_except ?_;have pass:Qm (CX1 X.prog X.w) (X.tr (X.pn++pins) (fun ev s₁=>uP (uM X.prog X.w) X.A (pN ev X.env) (fun _ s₂=>uP (uM X.prog X.w) X.A (setFlight ev none) (fun _ s₃=>uP (uM X.prog X.w) X.A (handleBy ev X.env (h₀::hs)) (SP X pins D) X.xe s₃) X.xe s₂) X.xe s₁)) E σ:=by
  rintro pI Hc sc ev s' Ic ⟨e,C,d,H',rfl,mF,hq⟩;obtain⟨B,a,x,hok,u⟩:=mF.ex;have hfrm:X.A.frames=some (X.env::X.outer):=by rw[I.ok.frames,oK]
  have a':Air B (X.env::X.outer) e s'.heap:=by rw[<-oK];exact a
  refine QD hfrm lB a' x fun h1 a1 x1 u1=>?_;refine Tf (s:={ s' with heap:=h1 }) (o:=none) a1 x1 fun h2 a2 x2 u2=>?_;have up:=u1.trans u2;have hl:WR X pins σ H' C d e { s' with heap:=h2 }:=⟨Hc,sc,B,_,Ic.untr,mF.os,mF.bare,by rw[oK];exact a2,x2,hok,u.up a rfl up⟩;exact hh pins _ σ H' D C d e hl (hH C d H' hq)
 refine wpAny_execs_cons (uA (hb E σ _ _ pass [] s H D I.tr hB) (fun f s1 hf=>?_) fun _ _ z=>z);cases f with
 | next=>exact rE (rE (SP.untr hf))
 | brk=>exact SP.untr hf
 | cont=>exact SP.untr hf
 | ret u=>exact SP.untr hf
structure WX (K:yS)(D:Addr):Prop where
 ga:yD K (.ref D) "__getattribute__"=some (some (.builtin "BaseException.__getattribute__"))
 gt:yD K (.ref D) "__getattr__"=some none
 cl:(wZ K D).isSome=true
 be:xR K (.ref D) (.type "BaseException")=some true
 ac:yD K (.ref D) "__class__"=some (some (.builtin "object.__class__"))
 sp:xC K (.builtin "object.__class__") "__get__"=some (some (.builtin "getset_descriptor.__get__"))
 tk:xj K (.builtin "object.__class__")=some true
 mo:xm K D (.type "object")=some true
section
variable {prog:uE}{w:uw}{A:uq}{E:uT->uS->Prop}{s:uS}{K:yS}{x D:Addr}{ox:Obj}{od:Option Obj}{name:Str}
theorem G3:(qK "BaseException.__getattribute__" == qK "object.__getattribute__")=false:=by decide +kernel
theorem HF {tv:uT}{M:Model}{Q:Unit->uS->Prop}(k:K.In s.heap)(c:WX K D)(I:xu s.heap x ox D od)(q:Q () s):uP M A (checkBuiltinCall "BaseException.__getattribute__" ⟨[.ref x,tv],[]⟩) Q E s:=by
 obtain⟨hh,g,dr,t,os⟩:=s;have L0:=I.type (M:=M);have L1:=vq (M:=M) k c.be;have hk:builtinKind "BaseException.__getattribute__"=some .slot:=by decide +kernel
 have ou:splitId "BaseException.__getattribute__"=some ("BaseException","__getattribute__"):=by decide +kernel
 have ha:=PySem.F.args_bexc_ga (.ref x) tv;simp only[checkBuiltinCall,hk,ou];refine uV ?_;unfold qy;refine uV (L0.at ?_);refine L1.at ?_
 repeat (any_goals (first|assumption|wp_step))
theorem Fv {tk:Tok}{r:Builtin.ObjectAttr.Found}{Q:Fin->uS->Prop}(k:K.In s.heap)(I:xu s.heap x ox D od)(hf:vp K D od name=some r)
  (h:match r with
   | .value v=>Q (.done (.ret v)) s
   | .bind g a=>uP (uM prog w) A (call g [a,.ref x,.ref D]) (fun v s'=>Q (.done (.ret v)) s') E s
   | .missing=>False):uP (uM prog w) A (sG.«object.__getattribute__» ⟨[.ref x,.str name tk],[]⟩) Q E s:=by
 obtain⟨hh,g,dr,t,os⟩:=s;have L0:=I.type (M:=uM prog w);have L1:=PySem.W.looks_find (M:=uM prog w) k I hf;unfold sG.«object.__getattribute__»;refine uV (m:=slotArgs _ _ _) (uQ ?_);refine uV (m:=Builtin.ObjectAttr.attrName _) (uQ ?_);refine uV (L0.at (uV (L1.at ?_)));cases r with
 | value v=>exact uQ h
 | missing=>exact h.elim
 | bind g a=>
  show uP _ _ (holding [a] (call g [a,.ref x,.ref D]) >>= ret) _ _ _;exact uV (sk (uA h (fun v s' z=>uQ z) fun _ _ z=>z))
theorem Ku {tk:Tok}{fill expr:Bool}{r:Builtin.ObjectAttr.Found}{Q:uT->uS->Prop}(k:K.In s.heap)(c:WX K D)(I:xu s.heap x ox D od)(hf:vp K D od name=some r)
  (h:match r with
   | .value v=>vI v=true/\Q v s
   | .bind g a=>uP (uM prog w) A.in1 (call g [a,.ref x,.ref D]) (fun v s'=>vI v=true/\Q v s') (fun _ _=>False) s
   | .missing=>False):uP (uM prog w) A (getAttrBy (.ref x) (.str name tk) fill expr) Q E s:=by
 obtain⟨hh,g,dr,t,os⟩:=s;have L0:=I.type (M:=uM prog w);have L1:=wu (M:=uM prog w) k c.ga;have L2:=wu (M:=uM prog w) k c.gt;have fb:=PySem.F.attr_ValueError.ga.bind (.ref x);unfold getAttrBy;refine sk (uV (L0.at (uV (L1.at ?_))));show uP _ _ (if (onTheHeap (.ref D)&&qK "BaseException.__getattribute__" == qK "object.__getattribute__")=true then _ else _) _ _ _;rw[G3,Bool.and_false,uL (by decide)];unfold getAttrByItsOwn hookBefore;refine uV (L2.at ?_);have my:(expr&&onTheHeap (qK "BaseException.__getattribute__"))=false:=by cases expr<;>rfl
 unfold callGetattribute;rw[my,uL (by decide)];unfold boundAndCalled;refine uV (ql (sk (uV ?_)));rw[fb];refine uQ ?_;refine rN (qR PySem.F.attr_ValueError.ga.plain PySem.F.entry_bexc_ga (HF k c I ?_));refine Fv k I hf ?_;cases r with
 | value v=>exact PySem.W.handed_on h.1 h.2
 | missing=>exact h
 | bind g a=>exact uA h (fun v s' z=>PySem.W.handed_on z.1 z.2) fun _ _ z=>z.elim
theorem Jl {a g:uT}(hc:(wZ K D).isSome=true)(ha:yD K (.ref D) name=some (some a))(hg:xC K a "__get__"=some (some g))(ht:xj K a=some true):vp K D od name=some (.bind g a):=by
 obtain⟨cd,oP⟩:=sE.mp hc;unfold vp;rw[oP,qh,ha,qh];dsimp only;rw[hg,qh];dsimp only;rw[ht,qh]
theorem Gj {Q:Option uT->uS->Prop}(k:K.In s.heap)(c:WX K D)(I:xu s.heap x ox D od)(q:Q (some (.ref D)) { s with toks:=s.toks+1 }):uP (uM prog w) A (getAttr? (.ref x) "__class__") Q E s:=by
 unfold getAttr? getAttrBy?;refine uV (wpAny_mkText (uV (ql ?_)));refine Ku (s:={ s with toks:=s.toks+1 }) k c I (Jl c.cl c.ac c.sp c.tk) ?_;exact rN (PySem.W.class_get (s:={ s with toks:=s.toks+1 }) k I c.mo ⟨rfl,uQ q⟩)
def ExIs (e:Addr)(D:Addr)(h:Heap):Prop:=∃ ox od,xu h e ox D od
theorem MJ {e:Addr}(c:WX K D):PySem.W.KitX K (.ref e) (.ref D) (ExIs e D) where
 ty:=fun M h _ ⟨_,_,I⟩=>I.type
 it:=fun M h k _=>by
  obtain⟨cd,oP⟩:=sE.mp c.cl;unfold wZ at oP;split at oP
  ·rename_i ho;intro A' Q' E' s' kk z;unfold isType loadHead;exact uV (wpAny_loadPart (kk _ _ (k _ _ ho)) (uQ z))
  cases oP
 ne:=fun h tp dd pL n sl k i8=>by
  obtain⟨cd,oP⟩:=sE.mp c.cl;refine wy.mpr fun q=>?_;have e1:D=tp:=uI.inj (tf.mp q);subst e1;unfold wZ at oP;split at oP
  ·rename_i ho;have z:=(k _ _ ho).symm.trans i8;cases z
  cases oP
 ca:=fun k ⟨_,_,I⟩ q=>Gj k c I q
end
section
variable {X:Cx}
noncomputable def clsV:V->Option uT
 | .ty n=>some (.type n)
 | .ref a=>some (.ref a)
 | _=>none
end
structure Ze (K:yS)(D:Addr):Prop where
 ty:wY K (.ref D)=some (.type "type")
 cl:PySem.W.isClsIn K D=true
 be:xR K (.ref D) (.type "BaseException")=some true
 ga:yD K (.ref D) "__getattribute__"=some (some (.builtin "BaseException.__getattribute__"))
 gt:yD K (.ref D) "__getattr__"=some none
 ac:yD K (.ref D) "__class__"=some (some (.builtin "object.__class__"))
 sp:xC K (.builtin "object.__class__") "__get__"=some (some (.builtin "getset_descriptor.__get__"))
 tk:xj K (.builtin "object.__class__")=some true
 mo:xm K D (.type "object")=some true
theorem Ze.isCl {K:yS}{D:Addr}(f:Ze K D):(wZ K D).isSome=true:=f.cl
theorem Ze.h {K:yS}{D:Addr}(f:Ze K D):HCls K D:=⟨f.ty,f.isCl,f.be⟩
theorem Ze.x {K:yS}{D:Addr}(f:Ze K D):WX K D:=⟨f.ga,f.gt,f.isCl,f.be,f.ac,f.sp,f.tk,f.mo⟩
theorem Ex {K:yS}{D A:Addr}{b:Bool}(f:Ze K A)(h:xR K (.ref D) (.ref A)=some b)(n:b=true\/D≠A):yp K (.ref D) (.ref A)=some b:=by
 unfold yp;by_cases e:D=A;subst e;rw[uK (by simp)];rcases n with n|n;rw[n];exact absurd rfl n;rw[uL (by simpa using e)];unfold PySem.W.kitCls;dsimp only;rw[uK (by rw[f.isCl,f.ty];decide)];exact h
theorem CI {K:yS}{D:Addr}{b:Bool}{T:String}(m:PySem.W.kitMeta T=true)(h:xR K (.ref D) (.type T)=some b):yp K (.ref D) (.type T)=some b:=by
 unfold yp;rw[uL (by intro q;cases tf.mp q)];unfold PySem.W.kitCls;dsimp only;rw[uK m];exact h
theorem Jn:PySem.W.kitMeta "ValueError"=true:=by decide +kernel
theorem Jo:uh "ValueError"=some (.type "ValueError"):=by decide +kernel
def Bt (n:Nat)(i:Int):Prop:=i.natAbs<2^n
theorem Bt.mono {n m:Nat}{i:Int}(h:Bt n i)(l:n<=m):Bt m i:=yz h (Nat.pow_le_pow_right (by decide) l)
theorem Bt.le {n:Nat}{i j:Int}(h:Bt n j)(l:i.natAbs<=j.natAbs):Bt n i:=xI l h
theorem Bt.log {n:Nat}{i:Int}(h:Bt n i)(h0:i≠0):i.natAbs.log2<n:=(uW (by omega)).mpr h
section
variable {X:Cx}
theorem Qu:OpR X (rh .FloorDiv) (rI (fun _ j=>j≠0/\Bt 4000 j) fun i j=>.int (i.fdiv j)):=opI fun i j _ _ _ _ _ hc q=>
 floordiv_int hc.1 q (.inl (PyProof.noPylong_of_log2 (yz (hc.2.log hc.1) (by decide))))
end
structure VU (K:yS)(x qual:Str)(st:Stmt)(dV:uT)(f:Addr)(fd:uC):Prop where
 ex:∃ (oc:uT) (od:Option Addr) (kV doc pm:uT) (an:Option Addr) (pK ct:uT) (oR:Array (Option uT)),
  fd=yd x qual (Y9 st) (Zi st) (Z2 st) dV kV doc pm an pK ct/\K.lookup f=some ⟨oc,od,.func fd,oR⟩/\xG K pK qual=true
 kp:yf K (.ref f)=true
section
variable {P:uE}{w:uw}{K:yS}{mg:Str->Option uT}{base:Heap}
theorem VU.ok1 {x qual:Str}{st:Stmt}{dV:uT}{f:Addr}{fd:uC}{N ps:List Str}{k:Nat}{sp:Sp}(F:VU K x qual st dV f fd)(S:ZT N ps (Z2 st))(len:∀ vs H Q E,sp vs H Q E->vs.length=ps.length)
  (oS:∀ (pK:uT) (A:uq) (outer:List Env) (s:uS) (H:Hp) (vs:List V) (Q:VK) (E:XK),ZK k (A.deeper (rC qual (Z2 st) s.heap.objs.size f pK))->sp vs H Q E->
   ∃ t,PSs (Zb (CX1 P w) P w K mg base N qual (Z2 st) f pK A outer s H E) (Zi st) t/\t { nx:=fun _ H'=>Q .non H',rt:=Q } (start N vs) H):Z6 P w K mg base (CX1 P w) (k+1) f fd ps sp:=by
 obtain⟨oc,od,kV,doc,pm,an,pK,ct,oR,rfl,lk,oP⟩:=F.ex;exact O7 lk oP S len fun A outer s H vs Q E hr ou=>oS pK A outer s H vs Q E hr ou
theorem LC {x qual:Str}{st:Stmt}{dV:uT}{f:Addr}{oc:uT}{od an:Option Addr}{oR:Array (Option uT)}{kV doc pm pK ct:uT}(l:K.lookup f=some ⟨oc,od,.func (yd x qual (Y9 st) (Zi st) (Z2 st) dV kV doc pm an pK ct),oR⟩)
  (c:xG K pK qual=true) (k:yf K (.ref f)=true):VU K x qual st dV f (yd x qual (Y9 st) (Zi st) (Z2 st) dV kV doc pm an pK ct):=⟨⟨oc,od,kV,doc,pm,an,pK,ct,oR,rfl,l,c⟩,k⟩
end
theorem Vf {P:uE}{w:uw}{X:Cx}:YE (CX1 P w) X E0:=by rintro _ _ _ _ _ _ _ ⟨_,_,_,_,_,_,z⟩;exact z.elim
structure MFn (K:yS)(C:Addr)(m qual:Str)(st:Stmt)(ps:List Str)(f:Addr)(fd:uC):Prop where
 F:Fun K m qual st f fd
 b:Zn K fd ps []
 m:UZ K C m f
structure FnD (K:yS)(mg:Str->Option uT)(x:Str)(st:Stmt)(ps:List Str)(v:V)(f:Addr)(fd:uC)(u:uT):Prop where
 F:∃ dV,VU K x x st dV f fd
 kp:yf K (.ref f)=true
 b:Zn K fd ps []
 d:Zn K fd ps [u]
 r:ZX [v] [u]
 m:mg x=some (.ref f)
def Tu (K:yS)(x:Str)(st:Stmt)(ps:List Str)(v:V):Prop:=∃ f fd u,(∃ dV,VU K x x st dV f fd)/\yf K (.ref f)=true/\Zn K fd ps []/\Zn K fd ps [u]/\ZS v u/\yF K uG x=some (some (.ref f))
theorem Tu.fn {K:yS}{h:Heap}{mg:Str->Option uT}{x:Str}{st:Stmt}{ps:List Str}{v:V}(X:K.In h)(G:h.Ns uG mg)(R:Tu K x st ps v):∃ f fd u,FnD K mg x st ps v f fd u:=by
 obtain⟨f,fd,u,F,kp,b,d,r,m⟩:=R;exact⟨f,fd,u,F,kp,b,d,.cons r .nil,yu X G m⟩
theorem EU {K:yS}{x p1 p2 p3 p4 p5:Str}{st:Stmt}{v:V}{f Td:Addr}{oc tc u:uT}{od an td:Option Addr}{oR tsl:Array (Option uT)}{kV doc pm pK ct:uT}{tn:Nat}(a:yF K uG x=some (some (.ref f)))
  (l:K.lookup f=some ⟨oc,od,.func (yd x x (Y9 st) (Zi st) (Z2 st) (.ref Td) kV doc pm an pK ct),oR⟩) (c:xG K pK x=true) (k:yf K (.ref f)=true)
  (t:K.lookup Td=some ⟨tc,td,.seq #[u] tn,tsl⟩) (r:ZS v u)
  (b2:∀ (s:uS),K.In s.heap->∀ y1 y2 y3 y4 y5:uT,qe s (yd x x (Y9 st) (Zi st) (Z2 st) (.ref Td) kV doc pm an pK ct) ⟨[y1,y2,y3,y4,y5],[]⟩ [(p1,y1),(p2,y2),(p3,y3),(p4,y4),(p5,y5)])
  (b1:∀ (s:uS),K.In s.heap->∀ y1 y2 y3 y4:uT,qe s (yd x x (Y9 st) (Zi st) (Z2 st) (.ref Td) kV doc pm an pK ct) ⟨[y1,y2,y3,y4],[]⟩ [(p1,y1),(p2,y2),(p3,y3),(p4,y4),(p5,u)]):Tu K x st [p1,p2,p3,p4,p5] v:=by
 refine⟨f,_,u,⟨_,LC l c k⟩,k,fun s us hK hl=>?_,fun s us hK hl=>?_,r,a⟩
 ·have oF:us.length=5:=by simpa using hl
  match us,oF with
  | [y1,y2,y3,y4,y5],_=>exact b2 s hK y1 y2 y3 y4 y5
 ·have oF:us.length=4:=by simpa using hl
  match us,oF with
  | [y1,y2,y3,y4],_=>exact b1 s hK y1 y2 y3 y4
end L2
namespace L2
open PySem PySem.Spec PyProof.Rows PySem.W
def tOr2 (t1 t2:TE):TE:=fun σ H Q=>t1 σ H Q\/t2 σ H Q
section
variable {X:Cx}{x:Str}{C:Addr}{p pos:Pos}
theorem PE.or2 {e:Expr}{t1 t2:TE}(h1:PE X e t1)(h2:PE X e t2):PE X e (tOr2 t1 t2):=fun pins s σ H Q I h=>h.elim (h1 pins s σ H Q I) (h2 pins s σ H Q I)
end
end L2
namespace L2
open PySem PySem.Spec PyProof.Rows
variable{X:Cx}
theorem Lz:∀ {cs:List Addr} {us:List uT},ZX (cs.map V.ref) us->us=cs.map uI
 | [],_,r=>by cases r;rfl
 | c::cs,_,r=>by
  cases r with
  | cons a b=>
   cases (show _=uI c from a);rw[Lz b];rfl
variable{prog:uE}{E:uT->uS->Prop}
def TDi (P:uE)(w:uw)(K:yS)(a:Addr)(vs:List (Key×uT)):Prop:=
 (a==tI)=false/\∃ o es ep,K.lookup a=some o/\o.ExactDict/\o.data=Data.dict es ep/\PySem.KeysOf (Zt P w) es/\Pairs (Zt P w) es.toList vs/\(vs.map (·.1)).Nodup
variable{P:uE}{w:uw}{a:Addr}
theorem TDi.dict {K:yS}{vs:List (Key×uT)}{h:Heap}(t:TDi P w K a vs)(k:K.In h):Heap.DictOf (Zt P w) h a vs:=by
 obtain⟨_,o,es,ep,l,r⟩:=t;exact⟨o,es,ep,k a o l,r⟩
theorem tdi2 {K:yS}{x1 x2:Str}{t1 t2:Tok}{v1 v2:uT}{ep:Nat}{h1 h2:Int}(hs:(a==tI)=false)
  (l:K.lookup a=some ⟨.type "dict",none,.dict #[⟨h1,.str x1 t1,v1⟩,⟨h2,.str x2 t2,v2⟩] ep,#[]⟩) (e1:h1=sM w x1) (e2:h2=sM w x2) (ne:¬ x1=x2):TDi P w K a [(uN x1,v1),(uN x2,v2)]:=by
 refine⟨hs,_,_,_,l,⟨Z,Z,Z⟩,Z,?_,.cons (Wn x1 t1) Z (.cons (Wn x2 t2) Z .nil),?_⟩;intro e he;have he:e=⟨h1,.str x1 t1,v1⟩\/e=⟨h2,.str x2 t2,v2⟩:=by simpa using he
 rcases he with rfl|rfl;exact⟨uN x1,Wn x1 t1,e1⟩;exact⟨uN x2,Wn x2 t2,e2⟩;simp[ne]
variable{pos:Pos}
def OB (P:uE)(w:uw)(K:yS):R2:=fun x y H Q=>∃ (a:Addr) (vs:List (Key×uT)) (k:Key),x=kV k/\y=.ref a/\TDi P w K a vs/\Q (.bl (tK vs k).isSome) H
theorem KF:OpR X (tV .In) (OB X.prog X.w X.K):=by
 intro pins s σ H x y v u Q I rx ry h;obtain⟨a,vs,k,rfl,rfl,t,q⟩:=h;cases (show u=uI a from ry);exact wpAny_in_of (Wa rx) t.1 (t.dict I.kIn).mapOf ⟨.bl _,H,I.tok _,rfl,q⟩
def zA (P:uE)(w:uw)(K:yS):R2:=fun x y H Q=>∃ (a:Addr) (vs:List (Key×uT)) (k:Key) (v:V) (u:uT),x=.ref a/\y=kV k/\TDi P w K a vs/\tK vs k=some u/\ZS v u/\Q v H
theorem Fg {o i:Expr}{td ty:TE}(ho:PE X o td)(hi:PE X i ty)(hs:OE i):PE X (.Subscript o i pos) (tOp (zA X.prog X.w X.K) td ty):=by
 intro pins s σ H Q I h;refine Ml PySem.F.slot_dict_getitem.lookup hs (thn (ho pins s σ H _ I h) fun u s1 ⟨x,H1,I1,rx,q1⟩=>thn (hi pins s1 σ H1 _ I1 q1) fun iv s2 ⟨y,H2,I2,ry,a,vs,k,v',u',ex,ey,t,e,ru,q2⟩=>?_);subst ex ey;obtain rfl:u=uI a:=rx;have dd:=t.dict I2.kIn;exact⟨dd.typeIs,wpAny_getItem_of (Wa ry) dd.mapOf e ⟨v',H2,I2.tok _,ru,q2⟩⟩
structure YD (k:Nat)(A:uq):Prop where
 dp:A.depth+3*k+5<pV
 un:A.units+16*k+200<tO
variable{k:Nat}{A:uq}
theorem ZK.u (r:ZK k A):YD k A:=⟨r.dp,r.un⟩
theorem YD.mono {j:Nat}(r:YD k A)(h:j<=k):YD j A:=⟨by have:=r.dp;lia,by have:=r.un;lia⟩
theorem YD.deeper {k:Nat}{A:uq}(r:YD (k+1) A)(env:Env):YD k (A.deeper env):=
 ⟨by have:=r.dp;show A.depth+1+3*k+5<_;lia,by have:=r.un;show A.units+3+16*k+200<_;lia⟩
theorem YD.mark {k:Nat}{A:uq}(r:YD k A)(o:Option uT):YD k (A.mark o):=⟨r.dp,r.un⟩
theorem YD.depth {k:Nat}{A:uq}(r:YD k A):A.depth<pV:=by have:=r.dp;lia
noncomputable abbrev cxU (P:uE)(w:uw)(K:yS)(mg:Str->Option uT)(base:Heap)(N:List Str)(qual:Str)(scope:rX)(f:Addr)(cd:uT)(A:uq)(outer:List Env)(s:uS)(H:Hp):Cx:=
 { Zb CX0 P w K mg base N qual scope f cd A outer s H E0 with calm:=false,xe:=fun _ _=>False }
theorem Jg:entryFor table "proto.unchain"=some sG.«proto.unchain»:=entryFor_of_tree (by kernel_rfl)
def GK (A:uq)(h:Heap):Prop:=∃ e o vs,A.handled=some (.ref e)/\h.get? e=some o/\o.data=.fields vs/\vs[2]?=some .none
section
variable {s:uS}
theorem Jk {α:Type}{e:Addr}{oa oe:Obj}{vs ws:Array uT}{Q:α->uS->Prop}(hh:A.handled=some (.ref e))(pC:e≠a)(ha:s.heap.get? a=some oa)(hda:oa.data=.fields vs)(hza:2<vs.size)(he:s.heap.get? e=some oe)(bW:oe.data=.fields ws)(h2:ws[2]?=some .none)
  (q:E (.ref a) { s with heap:=s.heap.update a (sj (·.setIfInBounds 2 (.ref e))) }):uP (uM prog w) A (raiseNew (α:=α) (.ref a)) Q E s:=by
 unfold raiseNew;refine uV (wpAny_handled ?_);rw[hh];dsimp only;rw[uK (show (uI e != uI a)=true from by simpa using pC)];refine uV (sk (wpAny_runValue (sD Jg ?_)));unfold sG.«proto.unchain»;dsimp only;refine uV (um he bW h2 ?_);rw[uK (by decide)];refine uV (uQ ?_);refine uQ ?_;dsimp only;exact uV (tD ha hda hza (pQ q))
end
structure JR (P:uE)(w:uw)(K:yS)(tg:Expr)(J:It)(fp:List Addr)(it:Addr)(tn:Nat->Heap->Prop):Prop where
 mem:it∈fp
 obj:∀ i h,tn i h->∀ b∈fp,∃ o,h.get? b=some o/\∀ v,o.data≠.cell v
 keep:∀ i h h',tn i h->(∀ b∈fp,∀ o,h.get? b=some o->h'.get? b=some o)->tn i h'
 item:∀ (X:Cx),X.prog=P->X.w=w->X.K=K->∀ (i:Nat) (pins:List (Addr×Obj)) (s:uS) (σ:St) (H:Hp) (E:uT->uS->Prop),Inv X pins σ H s->(∀ b∈fp,Y1 X pins H b)->tn i s.heap->J.go i H->
  uP (uM P w) X.A (rD (.ref it)) (fun r s1=>∃ u,r=some u/\
   uP (uM P w) X.A (rQ tg (.ref it) u) (fun _ s2=>∃ x H',Inv X pins σ H' s2/\ZS x u/\J.yld i H x H'/\tn (i+1) s2.heap/\∀ b∈fp,H' b=none) E s1) E s
 done:∀ (X:Cx),X.prog=P->X.w=w->X.K=K->∀ {eh:Addr},X.A.handled=some (.ref eh)->∀ (i:Nat) (pins:List (Addr×Obj)) (s:uS) (σ:St) (H:Hp) (E:uT->uS->Prop),Inv X pins σ H s->(∀ b∈fp,Y1 X pins H b)->tn i s.heap->(∃ C d,H eh=some (exO eh C d))->J.stop i H->
  uP (uM P w) X.A (rD (.ref it)) (fun r s1=>r=none/\Inv X pins σ H s1) E s
 self:∀ (A:uq) (i:Nat) (s:uS) (Q:uT->uS->Prop) (E:uT->uS->Prop),tn i s.heap->Q (.ref it) s->uP (uM P w) A (pyIter (.ref it)) Q E s
def PIEU (X:Cx)(pins:List (Addr×Obj))(σ:St)(tg:Expr)(R:It->Hp->Prop)(ju:uT)(s2:uS):Prop:=
 ∃ (it:Addr) (fp:List Addr) (tn:Nat->Heap->Prop) (J:It) (H':Hp),ju=.ref it/\Inv X pins σ H' s2/\JR X.prog X.w X.K tg J fp it tn/\tn 0 s2.heap/\(∀ b∈fp,Y1 X pins H' b)/\R J H'
def K0 (eh:Addr)(wi:TI)(k:Nat)(pull:List Nat)(g:TG)(te:TE):TE:=fun σ H Q=>wi σ H fun J H1=>∀ d,H1 d=none->
 ∃ W:Nat->Nat->St->Hp->Prop,(∃ m,W 0 m (bst k pull σ) (upd H1 d (.lst [])))/\∀ i m σ' H',W i m σ' H'->
  (J.stop i H'/\(∃ C de,H' eh=some (exO eh C de))/\Q (.ref d) H')\/
  (J.go i H'/\∀ x H2,J.yld i H' x H2->g x σ' H2 fun σ3 H3=>te σ3 H3 fun y H4=>∃ xs,H4 d=some (.lst xs)/\xs.length<uR/\∃ m',m'<m/\W (i+1) m' σ3 (upd H4 d (.lst (xs++[y]))))
theorem L8 {v:uT}{o:Option Int}(p:IsPart v o):∃ q:Option (Int×Tok),v=partValue q/\q.map (·.1)=o:=by
 cases p with
 | none=>exact⟨none,Z,Z⟩
 | int i t=>exact⟨some (i,t),Z,Z⟩
def rSlS:V->Option Int->Option Int->Hp->VK->Prop:=fun x lo hi H Q=>∃ z:Str,x=.str z/\(qu z lo hi).length<=uR/\Q (.str (qu z lo hi)) H
theorem KB:SlR X rSlS:=by
 intro pins s σ H x v vl vu lo hi sl Q I rx hs pl pu h;obtain⟨z,rfl,hz,q⟩:=h;obtain⟨t,rfl⟩:=rx;obtain⟨l,rfl,el⟩:=L8 pl;obtain⟨u,rfl,eu⟩:=L8 pu;subst el eu;refine⟨"str",_,F.slot_str_getitem.lookup,qb _ _ _,wpAny_getItem_str_slice (l:=l) (u:=u) (st:=none) hs Z ?_⟩;exact post_val_or_str ⟨hz,fun t' k=>⟨.str _,H,I.tok k,⟨_,rfl⟩,q⟩⟩
noncomputable def XR (x:Str)(n:Nat):Str:=⟨(wF n x.cps).foldl (·++·) #[]⟩
theorem EI (l:List (Array Nat)):∀ acc:Array Nat,(l.foldl (·++·) acc).toList=acc.toList++(l.map Array.toList).flatten:=by
 induction l with
 | nil=>intro acc;simp
 | cons a l ih=>intro acc;rw[List.foldl_cons,ih];simp
theorem HE (x:Str)(n:Nat):(XR x n).cps.toList=(wF n x.cps.toList).flatten:=by
 show ((wF n x.cps).foldl (·++·) #[]).toList=_;rw[EI,List.map_replicate];simp
theorem Mq (x:Str)(n:Nat):(XR x n).length=n*x.length:=by
 show (XR x n).cps.size=n*x.cps.size;rw[<-vy,HE];simp[List.length_flatten,List.map_replicate,List.sum_replicate_nat]
theorem LV:OpR X (rh .Mult) (fun x y H Q=>∃ (z:Str) (n:Nat),x=.str z/\y=.int (n:Int)/\2<=n/\n<=1000/\z.length<=1000/\Q (.str (XR z n)) H):=by
 intro pins s σ H x y v u Q I rx ry h;obtain⟨z,n,rfl,rfl,h1,h2,h4,q⟩:=h;obtain⟨t,rfl⟩:=rx;obtain⟨t',rfl⟩:=ry;have hzn:z.length*n<=1000000:=xQ (Nat.mul_le_mul h4 h2) (by decide);have cv:Builtin.Str.tooLong (z.length*(n:Int).toNat)=false:=by
  rw[yh];unfold Builtin.Str.tooLong;exact uJ (by have e:(1000000:Nat)<=uR:=(by decide);lia)
 refine P.mul_str (by rw[uJ (by lia),uJ (by lia)];rfl) (fun _ _=>?_) (fun _ _=>cv) ?_;have:(1000000:Int)<=(2^63-1)/(n:Int):=by
  apply Int.le_ediv_of_mul_le (by lia);lia
 lia;rw[uL (by lia)];by_cases h0:z.length=0;rw[uK (by rw[h0];simp)];have e:XR z n=z:=Str.ext' (by
  have h1:(XR z n).cps.size=0:=by show (XR z n).length=0;rw[Mq,h0,Nat.mul_zero]
  rw[vM h1,vM h0])
 rw[e]at q;exact⟨.str _,H,I,⟨_,Z⟩,q⟩;rw[uL (by simp;lia)];exact⟨by
  show (XR z ((n:Int).toNat)).length<=uR
  rw[Mq,yh]
  have e:(1000000:Nat)<=uR:=by decide
  rw[Nat.mul_comm];lia,⟨.str _,H,I.tok _,⟨_,Z⟩,by rw[yh];exact q⟩⟩
namespace RF
end RF
end L2
namespace L2
open PySem PySem.Spec PyProof.Rows
variable{X:Cx}{pins:List (Addr×Obj)}{σ:St}{H:Hp}{s:uS}{a:Addr}
theorem Es (I:Inv X pins σ H s){xs ys:List V}(h1:SqL X.K H a xs)(h2:SqL X.K H a ys):ys=xs:=I.list_inj h2 h1
variable{nX:Pos}
section
variable {elts:List Expr}{k:Nat}
theorem Ey:uh "zip"=some (.type "zip"):=by decide +kernel
end
theorem II (ns:List Int):∀ n,n<=ns.length->preSum (fun i=>ns.getD i 0) n=(ns.take n).sum:=by
 intro n
 induction n with
 | zero=>intro _;simp[preSum]
 | succ n ih=>
  intro h;have hn:n<ns.length:=by omega
  rw[xT,yR hn,List.sum_append];show preSum (fun i=>ns.getD i 0) n+ns.getD n 0=_;rw[ih (by omega)];simp[yG,hn]
theorem Gf:uh "sum"=some (.builtin "sum"):=by decide +kernel
variable{prog:uE}{w:uw}{A:uq}{elt iter:Expr}{scope:rX}{pos:Pos}{env:Env}
theorem IJ {R:Result->uS->Prop}{target ia:Expr}{it acc:uT}(I:Nat->uS->Prop)
  (turn:∀ n s,I n s->uP (uM prog w) A (rD it) (fun r s₁=>match r with
   | none=>R (.ok .next) s₁
   | some v=>uP (uM prog w) A (rQ target it v) (fun _ s₀=>uP (uM prog w) A (qt target env v) (fun _ s₂=>
     uP (uM prog w) A (isTrue ia env (eval ia env)) (fun ok s₃=>if ok=true then
     uP (uM prog w) A (eval elt env) (fun x s₄=>
       uP (uM prog w) A (call (.builtin "list.append") [acc,x]) (fun _ s₅=>∃ m,m<n/\I m s₅) (rZ (uM prog w) A env fun e s'=>R (.error e) s') s₄) (rZ (uM prog w) A env fun e s'=>R (.error e) s') s₃
      else ∃ m,m<n/\I m s₃) (rZ (uM prog w) A env fun e s'=>R (.error e) s') s₂)
     (rZ (uM prog w) A env fun e s'=>R (.error e) s') s₀) (rZ (uM prog w) A env fun e s'=>R (.error e) s') s₁) (rZ (uM prog w) A env fun e s'=>R (.error e) s') s)
  (n:Nat) (h:I n s) :
  rL (uM prog w) A (.compLoop (.ListComp elt [⟨target,iter,[ia],0⟩] scope pos) 0 it acc env) R s:=by
 refine codeAny_loop rfl I (fun n s hI=>?_) n h;show uP _ A ((compTurn (.ListComp elt [⟨target,iter,[ia],0⟩] scope pos) 0 it acc env).onRaise (fun x=>do pN x env;theTreesLotGoes x)) _ _ s;refine wpAny_noted ?_;rw[compTurn_list];refine uV (qL (uV (uA (turn n s hI) (fun r s₁ h₁=>?_) fun _ _ h'=>h')));cases r with
 | none=>exact uQ h₁
 | some v=>
  refine uV (uA h₁ (fun _ s₀ h₀=>?_) fun _ _ h'=>h');refine uV (uA h₀ (fun _ s₂ h₂=>uV (wpAny_tests_one (uA h₂ (fun ok s₃ h₃=>?_) fun _ _ h'=>h'))) fun _ _ h'=>h');cases ok with
  | false=>exact uQ ⟨rfl,by simpa using h₃⟩
  | true=>
   have h₃:=(show uP _ _ _ _ _ _ from by simpa using h₃);exact uV (uV (uA h₃ (fun x s₄ h₄=>uV (uA h₄ (fun _ s₅ h₅=>uQ (uQ ⟨rfl,h₅⟩)) fun _ _ h'=>h')) fun _ _ h'=>h'))
def DC (wi:TI)(k:Nat)(pull:List Nat)(g:TG)(tt:TT)(te:TE):TE:=fun σ H Q=>wi σ H fun J H1=>∀ d,H1 d=none->
 ∃ W:Nat->Nat->St->Hp->Prop,(∃ m,W 0 m (bst k pull σ) (upd H1 d (.lst [])))/\∀ i m σ' H',W i m σ' H'->
  (J.stop i H'/\Q (.ref d) H')\/
  (J.go i H'/\∀ x H2,J.yld i H' x H2->g x σ' H2 fun σ3 H3=>tt σ3 H3 fun b H4=>if b=true then te σ3 H4 fun y H5=>∃ xs,H5 d=some (.lst xs)/\xs.length<uR/\∃ m',m'<m/\W (i+1) m' σ3 (upd H5 d (.lst (xs++[y])))
   else ∃ m',m'<m/\W (i+1) m' σ3 H4)
variable{tg:Expr}{wi:TI}{names:List (Str×r6)}{pull:List Nat}
section
variable {ia:Expr}{sc:rX}{g:TG}{tt:TT}{te:TE}{N:List Str}{N':List Str}{k:Nat}
theorem Gx (hc:X.calm=true)(B:Xg N names N' k pull sc)(hN:X.N=N)(nV:X.env.scope.names=names)(hi:PI X tg iter wi)
  (hg:∀ cl C s₂ H₁ fp pins,PG (blk X sc cl C N' s₂ H₁ fp pins) tg g) (hcn:∀ cl C s₂ H₁ fp pins,PT (blk X sc cl C N' s₂ H₁ fp pins) ia tt) (he:∀ cl C s₂ H₁ fp pins,PE (blk X sc cl C N' s₂ H₁ fp pins) elt te)
  (hs:∀ x,sx iter X.env x=pure x:=by intro _;rfl):PE X (.ListComp elt [⟨tg,iter,[ia],0⟩] sc pos) (DC wi k pull g tt te):=by
 intro pins s σ H Q I h;rw[eval_ListComp];have pD:∀ y∈sc.names,y.2=.free->∃ c,X.env.cells.lookup y.1=some c:=fun y hy hf=>I.ok.has y.1 (.inl (by
  show X.env.scope.names.lookup y.1=_
  rw[nV];exact B.fre y hy hf))
 obtain⟨cl,ecl,c1,_,c3⟩:=WO (env:=X.env) sc.names [] pD (fun x c e=>nomatch e);rw[<-VN]at ecl;refine sR (use:=none) rfl hs ecl B.kind B.loc (thn (hi pins s σ H _ I h) fun xv s1 h1=>thn h1 fun ju s2 h2=>?_);obtain⟨it,fp,tn,J,H1,e,I2,T,mK,f2,hW⟩:=h2;subst e;have ho:∀ b∈fp,∃ o,s2.heap.get? b=some o:=fun b hb=>let ⟨o,e,_⟩:=T.obj _ _ mK b hb;⟨o,e⟩
 refine tZ (wpAny_newFunctionEnv B.nocell (by intro y hy;simp at hy) (fun h₁ oW pf=>?_) B.kind);dsimp only at oW pf ⊢;rw[xV]at oW pf ⊢;have old:∀ b o,s2.heap.get? b=some o->h₁.get? b=some o:=fun b o e=>by
  have pJ:=yM e;exact (pf.2 b (yv (xZ pJ))).trans (yQ _ (yQ _ e))
 have hd:h₁.get? s2.heap.objs.size=some { cls:=.type "list",data:=.seq ([]:List uT).toArray }:=
  (pf.2 _ (yv (xr _))).trans (yQ _ (yN _ rfl))
 have I4:=NQ (tk:=s2.toks+([]:List (Str×uT)).length) B hN nV I2 f2 ho c1 c3 oW old hd;have dj:tn 0 h₁:=T.keep _ _ _ mK fun b _ o e=>old b o e;obtain⟨W,⟨m0,w0⟩,turn⟩:=hW s2.heap.objs.size (I2.hok.fresh (yO _));have jm:∀ b∈fp,(upd H1 s2.heap.objs.size (.lst [])) b=none:=fun b hb=>by
  obtain⟨o,e⟩:=ho b hb;rw[Z5 (yv (yM e))];exact (f2 b hb).1
 have ow:∀ {H':Hp},(∀ b∈fp,H' b=none)->∀ b∈fp,Y1 (blk X sc cl (s2.heap.objs.size+1) N' s2 H1 fp pins) [] H' b:=fun hn b hb=>by
  refine⟨hn b hb,(I4.ok.exf b hb).1,I4.ok.exfs b hb,.inl hb,(I4.ok.exf b hb).2,fun p hp=>?_⟩;have hp:p∈X.pn++pins:=by simpa [blk] using hp
  exact (f2 b hb).2.2.2.2.2 p hp
 have loop:∀ s₃:uS,s₃={ s2 with heap:=h₁,toks:=s2.toks+([]:List (Str×uT)).length }->
   rL (uM X.prog X.w) X.A (.compLoop (.ListComp elt [⟨tg,iter,[ia],0⟩] sc pos) 0 (.ref it) (.ref s2.heap.objs.size) (qZ sc cl (s2.heap.objs.size+1) X.env))
    (qY (uM X.prog X.w) X.A X.xe none (EP X pins σ Q) (.ref s2.heap.objs.size) (s2.heap.objs.size+1)) s₃:=by
  rintro s₃ rfl;refine IJ (fun n s'=>∃ i σ' H',Inv (blk X sc cl (s2.heap.objs.size+1) N' s2 H1 fp pins) [] σ' H' s'/\tn i s'.heap/\(∀ b∈fp,H' b=none)/\W i n σ' H') ?_ m0 ⟨0,_,_,I4,dj,jm,w0⟩;rintro n s3 ⟨i,σ3,H3,I3,st3,fr3,w3⟩;rcases turn i n σ3 H3 w3 with ⟨stop,q⟩|⟨go,step⟩;refine thn (T.done (blk X sc cl (s2.heap.objs.size+1) N' s2 H1 fp pins) rfl rfl rfl hc i [] s3 σ3 H3 _ I3 (ow fr3) st3 stop) fun r s4 ⟨hr,I5⟩=>?_;subst hr;obtain⟨m,hn,_⟩:=id I5.loc;refine⟨m,hn,fun h' oG=>?_⟩;have ne:∀ b o,s2.heap.get? b=some o->b≠s2.heap.objs.size+1:=fun b o e=>yv (xZ (yM e));have U:Un (frs X.stack) fp H1 H3 s2.heap s4.heap:=I5.base;have U':Un (frs X.stack) fp H1 H3 s2.heap h':=⟨fun b o e n hb hx=>(oG.2 b (ne b o e)).trans (U.keep b o e n hb hx),fun b o e n hb hx=>by
    obtain⟨sl,z⟩:=U.slot b o e n hb hx
    exact⟨sl,(oG.2 b (ne b o e)).trans z⟩,U.free,fun b o e hx=>by
    obtain⟨o',z⟩:=U.there b o e hx
    exact⟨o',(oG.2 b (ne b o e)).trans z⟩,U.tups,U.frzs,U.tbls⟩
  have hok:HOk X.prog X.w H3 h':=HOk.but (C:=s2.heap.objs.size+1) I5.hok I5.free fun b o hb e=>(oG.2 b hb).trans e;refine⟨.ref s2.heap.objs.size,H3,I2.call' (s':={ s4 with heap:=h' }) I5.os U' hok I5.bare fun b hb=>?_,Z,q⟩;exact⟨(f2 b hb).2.2.2.1,(f2 b hb).2.1,(f2 b hb).2.2.2.2.1,(f2 b hb).2.2.2.2.2⟩
  ·refine thn (T.item (blk X sc cl (s2.heap.objs.size+1) N' s2 H1 fp pins) rfl rfl rfl hc i [] s3 σ3 H3 _ I3 (ow fr3) st3 go) fun r s4 ⟨u,hr,h4⟩=>?_;subst hr;refine thn h4 fun _ s5 ⟨x,H5,I5,r5,y5,st5,fr5⟩=>?_;have aS:=I5.pinned (ow fr5) (T.obj _ _ st5);refine uA (hg _ _ _ _ _ _ _ s5 σ3 H5 x u _ aS r5 (step x H5 y5)) (fun _ s6 ⟨σ6,H6,I6,q6⟩=>?_) fun _ _ z=>z.elim;refine uA (hcn _ _ _ _ _ _ _ s6 σ6 H6 _ I6 q6) (fun ok s7 ⟨H7,I7,q7⟩=>?_) fun _ _ z=>z.elim;cases ok with
   | false=>
    have q7:∃ m',m'<n/\W (i+1) m' σ6 H7:=by simpa using q7
    obtain⟨m',hm,w7⟩:=q7;refine⟨m',hm,i+1,σ6,_,I7.unpinned,T.keep _ _ _ st5 fun b hb o e=>(I7.pin (b,o) (yr _ (yr _ (WM hb e)))).1,fun b hb=>?_,w7⟩;obtain⟨o,e,_⟩:=T.obj _ _ st5 b hb;exact (I7.pin (b,o) (yr _ (yr _ (WM hb e)))).2.1
   | true=>
    rw[uK rfl]at q7;refine uA (he _ _ _ _ _ _ _ s7 σ6 H7 _ I7 q7) (fun y s8 ⟨z,H8,I8,r8,xs,hx8,hz8,m',hm,w8⟩=>?_) fun _ _ z=>z.elim;refine uA (Xn (X:=blk X sc cl (s2.heap.objs.size+1) N' s2 H1 fp pins) _ s8 σ6 H8 (.ref s2.heap.objs.size) [z] (.ref s2.heap.objs.size) [y] (fun _ H9=>H9=upd H8 s2.heap.objs.size (.lst (xs++[z]))) I8 rfl (.cons r8 .nil) ⟨_,xs,z,rfl,rfl,hx8,hz8,rfl⟩) (fun _ s9 ⟨_,H9,I9,_,e9⟩=>?_) fun _ _ z=>z.elim;subst e9;refine⟨m',hm,i+1,σ6,_,I9.unpinned,T.keep _ _ _ st5 fun b hb o e=>(I9.pin (b,o) (yr _ (yr _ (WM hb e)))).1,fun b hb=>?_,w8⟩;obtain⟨o,e,_⟩:=T.obj _ _ st5 b hb;exact (I9.pin (b,o) (yr _ (yr _ (WM hb e)))).2.1
 exact codeAny_compStart_list (loop _ rfl) (T.self _ 0 _ _ _ dj (loop _ rfl))
end
variable{σ3:St}{H1:Hp}{fp:List Addr}{cl:List (Str×Addr)}
section
variable {sc:rX}{py ki:Pos}{g:TG}{te:TE}{N:List Str}{N':List Str}{k j:Nat}{y:Str}
theorem MP {H3:Hp}{s2 s4:uS}{D:Zc}(bN:X.N.Nodup)(hj:X.N[j]?=some y)(hy:X.env.scope.names.lookup y=some .local)(I2:Inv X pins σ H1 s2)(f2:∀ b∈fp,Y1 X pins H1 b)(I5:Inv (blk X sc cl (s2.heap.objs.size+1) N' s2 H1 fp pins) [] σ3 H3 s4)(q:ZO j (.ref s2.heap.objs.size) σ H3 D.nx):uP (uM X.prog X.w) X.A (qt (.Name y py) X.env (.ref s2.heap.objs.size)) (fun _ kJ=>∃ m,kJ.heap.Ns (s2.heap.objs.size+1) m/\∀ h',xb (s2.heap.objs.size+1) kJ.heap h'->SP X pins D .next { kJ with heap:=h' }) X.xe s4:=by
 obtain⟨m,hn,_⟩:=id I5.loc;have U:Un (frs X.stack) fp H1 H3 s2.heap s4.heap:=I5.base;have J5:Inv X pins σ H3 s4:=I2.call' (s':=s4) I5.os U I5.hok I5.bare fun b hb=>⟨(f2 b hb).2.2.2.1,(f2 b hb).2.1,(f2 b hb).2.2.2.2.1,(f2 b hb).2.2.2.2.2⟩;obtain⟨g0,g1,_,g3,g4,g5⟩:Y1 X pins H3 (s2.heap.objs.size+1):=I2.fpOk (wJ _) I5.free;refine wpAny_assign_Name (NV J5 bN hj (.inl hy) (v:=.ref s2.heap.objs.size) rfl (fun s5 K5 ⟨a,sb,ha⟩=>?_) (.inr hy));have pC:s2.heap.objs.size+1≠a:=fun z=>by
  rcases ha with ha|ha;exact g1 (z.trans ha);exact g4 _ _ ha z.symm
 refine⟨m,hn.sameBut sb pC,fun h' oG=>⟨_,H3,?_,q⟩⟩;exact K5.turned (t':=s5.toks) (fun b o hb e=>(oG.2 b hb).trans e) g0 g1 g3 g4 g5
theorem LU (hc:X.calm=true)(bN:X.N.Nodup)(hj:X.N[j]?=some y)(hy:X.env.scope.names.lookup y=some .local)(B:Xg N names N' k pull sc)(hN:X.N=N)(nV:X.env.scope.names=names)(hi:PI X tg iter wi)
  (hg:∀ cl C s₂ H₁ fp pins,PG (blk X sc cl C N' s₂ H₁ fp pins) tg g) (he:∀ cl C s₂ H₁ fp pins,PE (blk X sc cl C N' s₂ H₁ fp pins) elt te)
  (hs:∀ x,sx iter X.env x=pure x:=by intro _;rfl) (hsw:rW (.ListComp elt [⟨tg,iter,[],0⟩] sc pos) (some (.Name y py)) ki.line X.env=pure true:=by rfl):PS X (.Assign [.Name y py] (.ListComp elt [⟨tg,iter,[],0⟩] sc pos) ki) (Yj (YK wi k pull g te) (ZO j)):=by
 intro pins s σ H D I h;rw[exec_Assign_Name_used _ _ _ _ hsw];refine uV (qL (uV ?_));show uP _ X.A (do let _ <-comprehension (.ListComp elt [⟨tg,iter,[],0⟩] sc pos) sc X.env _ (newList []) false (eval iter X.env) (some (qt (.Name y py) X.env))) _ _ s;have pD:∀ y∈sc.names,y.2=.free->∃ c,X.env.cells.lookup y.1=some c:=fun y hy hf=>I.ok.has y.1 (.inl (by
  show X.env.scope.names.lookup y.1=_
  rw[nV];exact B.fre y hy hf))
 obtain⟨cl,ecl,c1,_,c3⟩:=WO (env:=X.env) sc.names [] pD (fun x c e=>nomatch e);rw[<-VN]at ecl;refine uV (uA (sR (Q:=fun _ s'=>SP X pins D .next s') (use:=some (qt (.Name y py) X.env)) rfl hs ecl B.kind B.loc (thn (hi pins s σ H _ I h) fun xv s1 h1=>thn h1 fun ju s2 h2=>?_)) (fun _ s' hq=>uQ (uQ hq)) fun _ _ e=>e);obtain⟨it,fp,tn,J,H1,e,I2,T,mK,f2,hW⟩:=h2;subst e;refine UJ B hN nV I2 c1 c3 f2 mK T.obj T.keep (fun i=>T.item (blk X sc cl (s2.heap.objs.size+1) N' s2 H1 fp pins) rfl rfl rfl hc i []) (fun s=>T.self _ 0 s) (hW _ (I2.hok.fresh (yO _))) (hg _ _ _ _ _ _) (fun pI s6 σ6 H6 R I6 q6=>uA (he _ _ _ _ _ _ pI s6 σ6 H6 R I6 q6) (fun _ _ z=>z) fun _ _ z=>z.elim) fun i σ3 H3 s3 I3 fk st3 z=>?_;refine thn (T.done (blk X sc cl (s2.heap.objs.size+1) N' s2 H1 fp pins) rfl rfl rfl hc i [] s3 σ3 H3 _ I3 fk st3 z.1) fun r s4 h=>⟨h.1,MP bN hj hy I2 f2 h.2 z.2⟩
end
theorem Oh {h B B':Heap}(k:∀ b,B.get? b=none->B'.get? b=none):∀ {l:List Env},h.FunFrames B l->h.FunFrames B' l
 | [],_=>trivial
 | _::_,⟨hk,⟨L,o,hf,hn,ho,hd⟩,hr⟩=>⟨hk,⟨L,o,hf,k L hn,ho,hd⟩,Oh k hr⟩
theorem N8 {h h' B:Heap}{C:Addr}(s:xb C h h'):∀ {l:List Env},C∉frs l->h.FunFrames B l->h'.FunFrames B l
 | [],_,_=>trivial
 | env::l,hC,⟨hk,⟨L,o,hf,hn,ho,hd⟩,hr⟩=>by
  rw[Qr hf]at hC;exact⟨hk,⟨L,o,hf,hn,(s.2 L fun z=>hC (by rw[z];exact .head _)).trans ho,hd⟩,N8 s (fun z=>hC (.tail _ z)) hr⟩
variable{sc:rX}{N':List Str}
section
variable {P:uE}{K:yS}{mg:Str->Option uT}{base:Heap}{N:List Str}{qual:Str}{f:Addr}{cd:uT}{outer:List Env}{E E':XK}
theorem Of {pI:List (Addr×Obj)}{σ':St}{Hc:Hp}{s2 s3 s':uS}{ev acc:uT}{use:Option (uT->Sem Unit)}{Qp:uT->uS->Prop}(hE:∀ C d H',E' C d H'->E C d H')
  (I2:Inv (Zb (CX1 P w) P w K mg base N qual scope f cd A outer s H E) pins σ H1 s2) (f2:∀ b∈fp,Y1 (Zb (CX1 P w) P w K mg base N qual scope f cd A outer s H E) pins H1 b)
  (I:Inv (blk (Zb (CX1 P w) P w K mg base N qual scope f cd A outer s H E) sc cl (s2.heap.objs.size+1) N' s2 H1 fp pins) pI σ' Hc s3)
  (mF:CX1 P w (Zb (CX1 P w) P w K mg base N qual scope f cd A outer s H E).stack Hc s3 E' ev s') :
  rZ (uM P w) (Zb (CX1 P w) P w K mg base N qual scope f cd A outer s H E).A (qZ sc cl (s2.heap.objs.size+1) (Zb (CX1 P w) P w K mg base N qual scope f cd A outer s H E).env)
   (fun e kJ=>qY (uM P w) (Zb (CX1 P w) P w K mg base N qual scope f cd A outer s H E).A (Zb (CX1 P w) P w K mg base N qual scope f cd A outer s H E).xe use Qp acc (s2.heap.objs.size+1) (.error e) kJ) ev s':=by
 have eU:∀ (M:Model) (A':uq) (E':uT->uS->Prop) (v:uT) (C:Addr) (e:uT) (kJ:uS),qY M A' E' use Qp v C (.error e) kJ=qY M A' E' none Qp v C (.error e) kJ:=fun _ _ _ _ _ _ _=>by cases use<;>rfl
 simp only[eU];generalize hX:Zb (CX1 P w) P w K mg base N qual scope f cd A outer s H E=X at *;obtain⟨e,Cv,d,H',rfl,mF,hq⟩:=mF;obtain⟨B,a,x,hok,u⟩:=mF.ex;have oK:X.stack=X.env::X.outer:=by rw[<-hX];rfl
 have lB:X.env.frame=some X.env.locals:=by rw[<-hX];rfl
 have hex:X.ex=[]:=by rw[<-hX];rfl
 have hfs:(blk X sc cl (s2.heap.objs.size+1) N' s2 H1 fp pins).fs=frs X.stack:=rfl;have sz:X.s₀.heap.objs.size<=s2.heap.objs.size:=I2.sz;obtain⟨m,hn,_⟩:=I.loc;have hn:s3.heap.Ns (s2.heap.objs.size+1) m:=hn;obtain⟨oC,eC⟩:∃ o,s3.heap.get? (s2.heap.objs.size+1)=some o:=let ⟨o,_,_,ho,_⟩:=hn;⟨o,ho⟩
 have Cno:s2.heap.objs.size+1∉frs X.stack:=fun z=>by
  have:=(I2.stack).mem z;obtain⟨_,o,ho,_⟩:=this;exact absurd (yM ho) (Nat.not_lt.mpr (wJ _))
 have BC:B.get? (s2.heap.objs.size+1)=some oC:=u.keep _ _ eC I.free Cno;have fG:e≠s2.heap.objs.size+1:=fun z=>by have:=a.new;rw[z,BC]at this;cases this
 show uP _ _ (pN (.ref e) X.env) _ _ s';have fr:X.A.frames=some (X.env::X.outer):=by rw[<-oK];exact I2.ok.frames
 rw[oK]at a;refine QD fr lB a x fun h1 a1 x1 up1=>?_;refine⟨m,Heap.Ns.at hn fun o ho=>by rw[eC]at ho;cases ho;exact a1.stays _ _ BC,fun h' oG cenv' _=>?_⟩;obtain⟨oe,vs,T,oT,ts,q1,q2,q3,q4,q5,q6,q7,q8,q9,q10⟩:=x1;have nTC:T≠s2.heap.objs.size+1:=fun z=>by rw[z,BC]at q6;cases q6
 have q1':h'.get? e=some oe:=(oG.2 e fG).trans q1;have q8':h'.get? T=some oT:=(oG.2 T nTC).trans q8;unfold PySem.passOn;refine uV (um q1' q4.1 q5 ?_);rw[uL (by simp)];have less:∀ b,B.get? b=none->(xA B [s2.heap.objs.size+1]).get? b=none:=fun b hb=>by
  cases z:(xA B [s2.heap.objs.size+1]).get? b with
  | none=>rfl
  | some o=>have:=xc _ z;rw[hb]at this;cases this
 have a':Air (xA B [s2.heap.objs.size+1]) (X.env::X.outer) e h':=by
  refine⟨fun b o hb=>?_,less e a1.new,Oh less (N8 oG (by rw[<-oK];exact Cno) a1.frames)⟩;have nb:b≠s2.heap.objs.size+1:=fun z=>by rw[z,vF _ (.head _)]at hb;cases hb
  exact (oG.2 b nb).trans (a1.stays _ _ (xc _ hb))
 have x':WY (xA B [s2.heap.objs.size+1]) e Cv d (sW X.env.locals) h':=⟨oe,vs,T,oT,ts,q1',q2,q3,q4,q5,less T q6,q7,q8',q9,q10⟩;refine uV (Tf (s:={ s' with heap:=h' }) a' x' fun h3 a3 x3 au=>?_);refine pQ ?_;subst hX;refine SZ (s:={ s' with heap:=h3 }) (B:=xA B [s2.heap.objs.size+1]) (L:=s.heap.objs.size) I2.ok.frames rfl a3 x3.at fun h4 a4 x4 up4=>?_;have HC:H' (s2.heap.objs.size+1)=none:=u.free _ _ eC I.free;have mz:∀ b:Addr,b∉([]:List Addr):=fun b z=>by cases z
 have lt:∀ b o,s.heap.get? b=some o->b<s2.heap.objs.size:=fun b o q=>yz (yM q) sz;have nC:∀ b o,s.heap.get? b=some o->b≠s2.heap.objs.size+1:=fun b o q z=>absurd (xZ (lt b o q)) (by rw[z];exact xN _);have nC':∀ b o,s.heap.get? b=some o->b∉[s2.heap.objs.size+1]:=fun b o q z=>nC b o q (yH.mp z);have lF:∀ b o,s.heap.get? b=some o->b∉fp:=fun b o q z=>by
  rcases (f2 b z).2.2.2.1 with k|k;cases k;exact absurd (yM q) (Nat.not_lt.mpr k)
 have bu:frs (rC qual scope s.heap.objs.size f cd::outer)=s.heap.objs.size::frs outer:=Qr rfl;have old:∀ b o,s.heap.get? b=some o->b∉frs outer->b∉frs (rC qual scope s.heap.objs.size f cd::outer):=fun b o q hb z=>by
  rw[bu]at z;rcases yl.mp z with z|z;exact absurd (z ▸ yM q) (xN _);exact hb z
 have fF:∀ b,b∈frs outer->b∈frs (rC qual scope s.heap.objs.size f cd::outer):=fun b hb=>by rw[bu];exact yx _ hb
 refine⟨e,Cv,d,H',Z,⟨(mF.os.trans I.os).trans I2.os,mF.bare,_,a4,x4,Qo hok fun b z=>by rw[yH.mp z];exact HC,?_⟩,hE _ _ _ hq⟩;exact {
  keep:=fun b o q n hb=>by
   have e1:=I2.base.keep b o q n hb (mz b)
   have n1:=I2.base.free b o q n (mz b)
   have e2:=I.base.keep b o e1 n1 (old b o q hb) (lF b o q)
   have n2:=I.base.free b o e1 n1 (lF b o q)
   exact xF _ (u.keep b o e2 n2 (old b o q hb)) (nC' b o q)
  slot:=fun b o q n hb=>by
   obtain⟨sl1,e1⟩:=I2.base.slot b o q n hb (mz b)
   have n1:=I2.base.free b o q n (mz b)
   obtain⟨kh,e2⟩:=I.base.slot b _ e1 n1 (fF b hb) (lF b o q)
   have n2:=I.base.free b _ e1 n1 (lF b o q)
   obtain⟨sl3,e3⟩:=u.slot b _ e2 n2 (fF b hb)
   obtain⟨_,o3,e3',nf⟩:=a.frames.mem (fF b hb)
   have:o3={ o with slots:=sl3 }:=by rw[e3]at e3';exact (uz.inj e3').symm
   subst this
   obtain⟨sl4,e4⟩:=up1 b _ e3 nf
   have e5:=(oG.2 b (nC b o q)).trans e4
   obtain⟨sl6,e6⟩:=au b _ e5 nf
   obtain⟨sl7,e7⟩:=up4 b _ e6 nf
   exact⟨sl7,e7⟩
  free:=fun b o q n=>by
   obtain⟨o1,e1⟩:=I2.base.there b o q (mz b)
   have n1:=I2.base.free b o q n (mz b)
   obtain⟨o2,e2⟩:=I.base.there b o1 e1 (lF b o q)
   exact u.free b o2 e2 (I.base.free b o1 e1 n1 (lF b o q))
  there:=fun b o q hb=>by
   obtain⟨o1,e1⟩:=I2.base.there b o q (mz b)
   obtain⟨o2,e2⟩:=I.base.there b o1 e1 (lF b o q)
   obtain⟨o3,e3⟩:=u.there b o2 e2 (old b o q hb)
   exact⟨o3,xF _ e3 (nC' b o q)⟩
  tups:=fun b xs q=>u.tups b xs (I.base.tups b xs (I2.base.tups b xs q))
  frzs:=fun b o v q=>u.frzs b o v (I.base.frzs b o v (I2.base.frzs b o v q))
  tbls:=fun b ps q=>by
   obtain⟨m1,e1⟩:=I2.base.tbls b ps q
   obtain⟨m2,e2⟩:=I.base.tbls b _ e1
   obtain⟨m3,e3⟩:=u.tbls b _ e2
   exact⟨m1++m2++m3,by rw[e3];simp[vh]⟩ }
end
variable{NX:List Str}{s0:uS}
section
variable {P:uE}{K:yS}{mg:Str->Option uT}{base:Heap}{qual:Str}{f:Addr}{cd:uT}{outer:List Env}{H0:Hp}{E E':XK}
variable {g:TG}{te:TE}{N:List Str}{k:Nat}
theorem Fy (hX:X=Zb (CX1 P w) P w K mg base NX qual scope f cd A outer s0 H0 E)(hE:∀ C d H',E' C d H'->E C d H')(hc:X.calm=true)(B:Xg N names N' k pull sc)(hN:X.N=N)(nV:X.env.scope.names=names)(hi:PI X tg iter wi)
  (hg:∀ cl C s₂ H₁ fp pins,PG (blk X sc cl C N' s₂ H₁ fp pins) tg g) (he:∀ cl C s₂ H₁ fp pins W,YE (CX1 P w) ((blk X sc cl C N' s₂ H₁ fp pins).wish W) E'->PE ((blk X sc cl C N' s₂ H₁ fp pins).wish W) elt te)
  (hs:∀ x,sx iter X.env x=pure x:=by intro _;rfl):PE X (.ListComp elt [⟨tg,iter,[],0⟩] sc pos) (YK wi k pull g te):=by
 intro pins s σ H Q I h;rw[eval_ListComp];have pD:∀ y∈sc.names,y.2=.free->∃ c,X.env.cells.lookup y.1=some c:=fun y hy hf=>I.ok.has y.1 (.inl (by
  show X.env.scope.names.lookup y.1=_
  rw[nV];exact B.fre y hy hf))
 obtain⟨cl,ecl,c1,_,c3⟩:=WO (env:=X.env) sc.names [] pD (fun x c e=>nomatch e);rw[<-VN]at ecl;refine sR (use:=none) rfl hs ecl B.kind B.loc (thn (hi pins s σ H _ I h) fun xv s1 h1=>thn h1 fun ju s2 h2=>?_);obtain⟨it,fp,tn,J,H1,e,I2,T,mK,f2,hW⟩:=h2;subst e;have ps:YE (CX1 P w) ((blk X sc cl (s2.heap.objs.size+1) N' s2 H1 fp pins).wish (rZ (uM X.prog X.w) X.A (qZ sc cl (s2.heap.objs.size+1) X.env) fun e s'=>qY (uM X.prog X.w) X.A X.xe none (EP X pins σ Q) (.ref s2.heap.objs.size) (s2.heap.objs.size+1) (.error e) s')) E':=fun pI σ' Hc s3 ev s' I3 mF=>by
  subst hX;exact Of hE I2 f2 I3.unwish mF
 refine UJ B hN nV I2 c1 c3 f2 mK T.obj T.keep (fun i=>T.item (blk X sc cl (s2.heap.objs.size+1) N' s2 H1 fp pins) rfl rfl rfl hc i []) (fun s=>T.self _ 0 s) (hW _ (I2.hok.fresh (yO _))) (hg _ _ _ _ _ _) (fun pI s6 σ6 H6 R I6 q6=>uA (he _ _ _ _ _ _ _ ps pI s6 σ6 H6 R (I6.wish _) q6) (fun y s7 ⟨z,H7,I7,r7,q⟩=>⟨z,H7,I7.unwish,r7,q⟩) fun _ _ z=>z) fun i σ3 H3 s3 I3 fk st3 z=>?_;refine thn (T.done (blk X sc cl (s2.heap.objs.size+1) N' s2 H1 fp pins) rfl rfl rfl hc i [] s3 σ3 H3 _ I3 fk st3 z.1) fun r s4 h=>⟨h.1,Qv I2 f2 h.2 z.2⟩
end
section
variable {P:uE}{K:yS}{mg:Str->Option uT}{base:Heap}{qual:Str}{f:Addr}{cd:uT}{outer:List Env}{H0:Hp}{E E':XK}
variable {py ki:Pos}{g:TG}{te:TE}{N:List Str}{k j:Nat}{y:Str}
theorem Fb (hX:X=Zb (CX1 P w) P w K mg base NX qual scope f cd A outer s0 H0 E)(hE:∀ C d H',E' C d H'->E C d H')(hc:X.calm=true)(bN:X.N.Nodup)(hj:X.N[j]?=some y)(hy:X.env.scope.names.lookup y=some .local)(B:Xg N names N' k pull sc)(hN:X.N=N)(nV:X.env.scope.names=names)(hi:PI X tg iter wi)
  (hg:∀ cl C s₂ H₁ fp pins,PG (blk X sc cl C N' s₂ H₁ fp pins) tg g) (he:∀ cl C s₂ H₁ fp pins W,YE (CX1 P w) ((blk X sc cl C N' s₂ H₁ fp pins).wish W) E'->PE ((blk X sc cl C N' s₂ H₁ fp pins).wish W) elt te)
  (hs:∀ x,sx iter X.env x=pure x:=by intro _;rfl) (hsw:rW (.ListComp elt [⟨tg,iter,[],0⟩] sc pos) (some (.Name y py)) ki.line X.env=pure true:=by rfl):PS X (.Assign [.Name y py] (.ListComp elt [⟨tg,iter,[],0⟩] sc pos) ki) (Yj (YK wi k pull g te) (ZO j)):=by
 intro pins s σ H D I h;rw[exec_Assign_Name_used _ _ _ _ hsw];refine uV (qL (uV ?_));show uP _ X.A (do let _ <-comprehension (.ListComp elt [⟨tg,iter,[],0⟩] sc pos) sc X.env _ (newList []) false (eval iter X.env) (some (qt (.Name y py) X.env))) _ _ s;have pD:∀ y∈sc.names,y.2=.free->∃ c,X.env.cells.lookup y.1=some c:=fun y hy hf=>I.ok.has y.1 (.inl (by
  show X.env.scope.names.lookup y.1=_
  rw[nV];exact B.fre y hy hf))
 obtain⟨cl,ecl,c1,_,c3⟩:=WO (env:=X.env) sc.names [] pD (fun x c e=>nomatch e);rw[<-VN]at ecl;refine uV (uA (sR (Q:=fun _ s'=>SP X pins D .next s') (use:=some (qt (.Name y py) X.env)) rfl hs ecl B.kind B.loc (thn (hi pins s σ H _ I h) fun xv s1 h1=>thn h1 fun ju s2 h2=>?_)) (fun _ s' hq=>uQ (uQ hq)) fun _ _ e=>e);obtain⟨it,fp,tn,J,H1,e,I2,T,mK,f2,hW⟩:=h2;subst e;have ps:YE (CX1 P w) ((blk X sc cl (s2.heap.objs.size+1) N' s2 H1 fp pins).wish (rZ (uM X.prog X.w) X.A (qZ sc cl (s2.heap.objs.size+1) X.env) fun e s'=>qY (uM X.prog X.w) X.A X.xe (some (qt (.Name y py) X.env)) (fun _ s'=>SP X pins D .next s') (.ref s2.heap.objs.size) (s2.heap.objs.size+1) (.error e) s')) E':=fun pI σ' Hc s3 ev s' I3 mF=>by
  subst hX;exact Of hE I2 f2 I3.unwish mF
 refine UJ B hN nV I2 c1 c3 f2 mK T.obj T.keep (fun i=>T.item (blk X sc cl (s2.heap.objs.size+1) N' s2 H1 fp pins) rfl rfl rfl hc i []) (fun s=>T.self _ 0 s) (hW _ (I2.hok.fresh (yO _))) (hg _ _ _ _ _ _) (fun pI s6 σ6 H6 R I6 q6=>uA (he _ _ _ _ _ _ _ ps pI s6 σ6 H6 R (I6.wish _) q6) (fun y s7 ⟨z,H7,I7,r7,q⟩=>⟨z,H7,I7.unwish,r7,q⟩) fun _ _ z=>z) fun i σ3 H3 s3 I3 fk st3 z=>?_;refine thn (T.done (blk X sc cl (s2.heap.objs.size+1) N' s2 H1 fp pins) rfl rfl rfl hc i [] s3 σ3 H3 _ I3 fk st3 z.1) fun r s4 h=>⟨h.1,MP bN hj hy I2 f2 h.2 z.2⟩
end
structure Src (prog:uE)(w:uw)(i:Addr)(fp:List Addr)(St:Nat->Heap->Prop)(xs:Array uT):Prop where
 item:∀ {A:uq} {E:uT->uS->Prop} {s:uS} {k:Nat} {x:uT} {Q:uT->uS->Prop},St k s.heap->xs[k]?=some x->(∀ h',St (k+1) h'->xb i s.heap h'->Q x { s with heap:=h' })->
  uP (uM prog w) A (uo (.ref i)) Q E s
 stop:∀ {A:uq} {E:uT->uS->Prop} {s:uS} {k:Nat} {Q:uT->uS->Prop},A.handled=none->St k s.heap->xs[k]?=none->
  (∀ h' e,Heap.ExtBut i s.heap h'->(∃ o,h'.get? e=some o/\o.cls=.type "StopIteration")->E (.ref e) { s with heap:=h' })->uP (uM prog w) A (uo (.ref i)) Q E s
 keep:∀ {h h':Heap} {k:Nat},St k h->(∀ c∈fp,∀ o,h.get? c=some o->h'.get? c=some o)->St k h'
 obj:∀ {h:Heap} {k:Nat},St k h->∃ o,h.get? i=some o
abbrev TSt (i t:Addr)(xs:Array uT)(k:Nat)(h:Heap):Prop:=h.IsTupleIter i t k/\h.IsTuple t xs
variable{xs:Array uT}
theorem Hm {i t:Addr}(pC:t≠i):Src prog w i [i,t] (TSt i t xs) xs where
 item:=fun {A E s k x Q} st hx q=>by
  obtain⟨hi,ht⟩:=st;obtain⟨o,ho,hc,hd⟩:=id hi;obtain⟨ot,hot,ct,nt,jW⟩:=id ht;unfold uo;refine uV (ua (name:=uU "__next__") hi.typeIs F.slot_tuple_iterator_next (tW F.slot_tuple_iterator_next hi.typeIs F.entry_tuple_iterator_next ?_ (F.args_tuple_iterator_next_1 _)));show uP _ _ (rH (.ref i) 0 >>= _) _ _ s;refine uV (um ho hd (x:=.ref t) rfl ?_);show uP _ _ (if (uI t==uk)=true then _ else _) _ _ s;rw[uL (by exact yC)];show uP _ _ (rH (.ref i) 1 >>= _) _ _ s;refine uV (um ho hd (x:=.int k 0) rfl ?_);show uP _ _ (rz (.ref t) >>= _) _ _ s;refine uV (ue hot jW ?_);simp only[yh,hx];refine uV (tD ho hd (by simp) (uQ ⟨x,rfl,uQ (q _ ⟨?_,?_⟩ (tq ..))⟩));exact⟨_,xW _ ho (sX (tT hd _)),(qw ..).trans hc,by rw[tT hd];simp[sW]⟩;exact ht.extBut (tq ..).extBut pC
 stop:=fun {A E s k Q} hh st hx q=>by
  obtain⟨hi,ht⟩:=st;obtain⟨o,ho,hc,hd⟩:=id hi;obtain⟨ot,hot,ct,nt,jW⟩:=id ht;unfold uo;refine uV (ua (name:=uU "__next__") hi.typeIs F.slot_tuple_iterator_next (tW F.slot_tuple_iterator_next hi.typeIs F.entry_tuple_iterator_next ?_ (F.args_tuple_iterator_next_1 _)));show uP _ _ (rH (.ref i) 0 >>= _) _ _ s;refine uV (um ho hd (x:=.ref t) rfl ?_);show uP _ _ (if (uI t==uk)=true then _ else _) _ _ s;rw[uL (by exact yC)];show uP _ _ (rH (.ref i) 1 >>= _) _ _ s;refine uV (um ho hd (x:=.int k 0) rfl ?_);show uP _ _ (rz (.ref t) >>= _) _ _ s;refine uV (ue hot jW ?_);simp only[yh,hx];refine uV (rm (uV (tD ho hd (by simp) ?_)));show uP _ _ (newExc (.type "StopIteration") [] >>= _) _ _ _;refine uV ?_;simp only[newExc,newTuple];refine uV (tZ ?_ (by size_fits));refine uV (m:=rY _ _) (pR (a:=uk) (by first|rfl|(simp only[rY];rfl)) ?_);refine tZ ?_ (by size_fits);simp only[raiseNew];refine uV (wpAny_handled ?_);rw[show A.in1.handled=none from hh];exact uV (uQ (pQ (q _ _ (((tq ..).extBut.push _).push _) ⟨_,yN _ rfl,rfl⟩)))
 keep:=fun {h h' k} st kp=>by
  obtain⟨⟨o,ho,r⟩,⟨o',oH,r'⟩⟩:=st;exact⟨⟨o,kp i (by simp) o ho,r⟩,⟨o',kp t (by simp) o' oH,r'⟩⟩
 obj:=fun {h k} st=>let ⟨⟨o,ho,_⟩,_⟩:=st;⟨o,ho⟩
structure Rc (z TI TO i1 i2:Addr)(f1 f2:List Addr):Prop where
 TIz:TI≠z
 TOz:TO≠z
 TITO:TI≠TO
 TIi1:TI≠i1
 TIi2:TI≠i2
 a1:∀ c∈f1,c≠z/\c≠TO/\c≠i2
 a2:∀ c∈f2,c≠z/\c≠TO/\c≠i1
 m1:i1∈f1
 m2:i2∈f2
variable{k:Nat}{Q E:uT->uS->Prop}
section
variable {z TI TO i1 i2:Addr}{f1 f2:List Addr}{S1 S2:Nat->Heap->Prop}{ys:Array uT}
theorem Gq (D:Rc z TI TO i1 i2 f1 f2)(C1:Src prog w i1 f1 S1 xs)(C2:Src prog w i2 f2 S2 ys){A:uq}{E:uT->uS->Prop}{x y a b:uT}
  (hz:IsZip s.heap z TI TO .none) (lz:qW s.heap TI (.ref i1) (.ref i2)) (i0:qW s.heap TO a b) (h1:S1 k s.heap) (h2:S2 k s.heap) (hx:xs[k]?=some x) (hy:ys[k]?=some y)
  (hQ:∀ h',IsZip h' z TI TO (sW s.heap.objs.size)->qW h' TO x y->S1 (k+1) h'->S2 (k+1) h'->qW h' s.heap.objs.size x y->
   (∀ c o,c∉[z,TO,i1,i2]->s.heap.get? c=some o->h'.get? c=some o)->Q (.ref s.heap.objs.size) { s with heap:=h' }) :
  uP (uM prog w) A (sG.«zip.__next__» ⟨[.ref z],[]⟩) (fun fin s'=>∃ v,fin=.done (.ret v)/\Q v s') E s:=by
 have d1:=D.a1 _ D.m1;have d2:=D.a2 _ D.m2;show uP _ _ (rH (.ref z) 2 >>= _) _ _ _;refine uV (um hz rfl (x:=.bool false) rfl ?_);show uP _ _ (rH (.ref z) 3 >>= _) _ _ _;refine uV (um hz rfl (x:=.ref TI) rfl (uV (ue lz rfl ?_)));show uP _ _ (sP (.ref z) >>= _) _ _ _;refine uV ?_;unfold sP;refine uV (um hz rfl (x:=.none) rfl (uQ ?_));simp only[qz];refine uV (rm (uV (um hz rfl (x:=.ref TO) rfl (uV (rj hz (by simp) fun g1 z1 e1=>?_)))));replace z1:IsZip g1 z TI TO .ellipsis:=z1;have k1:S1 k g1:=C1.keep h1 fun c hc o e=>e1.extBut _ _ (D.a1 c hc).1 e;refine uV ?_;simp only[List.zipIdx_cons,List.zipIdx_nil,wA,u9];refine uV (uV (wpAny_onRaise ?_));show uP _ _ (uo (.ref i1) >>= _) _ _ _;refine uV (C1.item (s:={ s with heap:=g1 }) k1 hx fun g2 k2 e2=>uQ ?_);have t2:qW g2 TO a b:=e2.extBut _ _ d1.2.1.symm (e1.extBut _ _ D.TOz i0);refine uV (ue t2 rfl (uV (wpAny_updateSeq_pair t2 fun g3 t3 e3=>?_)));replace t3:qW g3 TO x b:=t3;refine uV (qI (uQ ?_));refine uV (uV (wpAny_onRaise ?_));show uP _ _ (uo (.ref i2) >>= _) _ _ _;have au:∀ c o,c≠z->c≠i1->c≠TO->s.heap.get? c=some o->g3.get? c=some o:=fun c o c1 c2 c3 e=>e3.extBut _ _ c3 (e2.extBut _ _ c2 (e1.extBut _ _ c1 e));have k3:S2 k g3:=C2.keep h2 fun c hc o e=>au c o (D.a2 c hc).1 (D.a2 c hc).2.2 (D.a2 c hc).2.1 e;refine uV (C2.item (s:={ s with heap:=g3 }) k3 hy fun g4 k4 e4=>uQ ?_);have t4:qW g4 TO x b:=e4.extBut _ _ d2.2.1.symm t3;refine uV (ue t4 rfl (uV (wpAny_updateSeq_pair t4 fun g5 t5 e5=>?_)));replace t5:qW g5 TO x y:=t5;refine uV (qI (uQ (uQ (uV (ue t5 rfl (uV (wpAny_newTuple ?_)))))));have hsz:g5.objs.size=s.heap.objs.size:=by rw[e5.1,e4.1,e3.1,e2.1,e1.1]
 have z5:IsZip g5 z TI TO .ellipsis:=e5.extBut _ _ D.TOz.symm (e4.extBut _ _ d2.1.symm (e3.extBut _ _ D.TOz.symm (e2.extBut _ _ d1.1.symm z1)));have k15:S1 (k+1) g5:=C1.keep k2 fun c hc o e=>e5.extBut _ _ (D.a1 c hc).2.1 (e4.extBut _ _ (D.a1 c hc).2.2 (e3.extBut _ _ (D.a1 c hc).2.1 e));have k25:S2 (k+1) g5:=C2.keep k4 fun c hc o e=>e5.extBut _ _ (D.a2 c hc).2.1 e;have zlt:z<g5.objs.size:=yM z5;show uP _ _ (qC (.ref z) (.ref g5.objs.size) >>= _) _ _ _;refine uV ?_;unfold qC;have z6:IsZip (g5.push { cls:=.type "tuple",data:=.seq #[x,y] }) z TI TO .ellipsis:=yQ _ z5;refine uV (rj z6 (by simp) fun g7 z7 e7=>?_);replace z7:IsZip g7 z TI TO (sW g5.objs.size):=z7;refine rj z7 (by simp) fun g8 z8 e8=>?_;replace z8:IsZip g8 z TI TO (sW g5.objs.size):=z8;have up:∀ c o,c≠z->g5.get? c=some o->g8.get? c=some o:=fun c o c1 e=>e8.extBut _ _ c1 (e7.extBut _ _ c1 (yQ _ e));have t8:qW g8 g5.objs.size x y:=e8.extBut _ _ (w9 zlt) (e7.extBut _ _ (w9 zlt) (yN _ rfl));rw[hsz]at z8 t8;refine uQ ⟨_,rfl,?_⟩;show Q (.ref g5.objs.size) _;rw[hsz];refine hQ g8 z8 (up _ _ D.TOz t5) (C1.keep k15 fun c hc o e=>up c o (D.a1 c hc).1 e) (C2.keep k25 fun c hc o e=>up c o (D.a2 c hc).1 e) t8 fun c o hc e=>up c o (fun q=>hc (by simp[q])) ?_;exact e5.extBut _ _ (fun q=>hc (by simp[q])) (e4.extBut _ _ (fun q=>hc (by simp[q])) (au c o (fun q=>hc (by simp[q])) (fun q=>hc (by simp[q])) (fun q=>hc (by simp[q])) e))
theorem HH (D:Rc z TI TO i1 i2 f1 f2)(C1:Src prog w i1 f1 S1 xs){a b:uT}{Q:PySem.Fin->uS->Prop}(hh:A.handled=none)
  (hz:IsZip s.heap z TI TO .none) (lz:qW s.heap TI (.ref i1) (.ref i2)) (h1:S1 k s.heap) (hx:xs[k]?=none)
  (hE:∀ h' e,(∀ c o,c∉[z,TO,i1,i2]->s.heap.get? c=some o->h'.get? c=some o)->(∃ o,h'.get? e=some o/\o.cls=.type "StopIteration")->E (.ref e) { s with heap:=h' }) :
  uP (uM prog w) A (sG.«zip.__next__» ⟨[.ref z],[]⟩) Q E s:=by
 have d1:=D.a1 _ D.m1;show uP _ _ (rH (.ref z) 2 >>= _) _ _ _;refine uV (um hz rfl (x:=.bool false) rfl ?_);show uP _ _ (rH (.ref z) 3 >>= _) _ _ _;refine uV (um hz rfl (x:=.ref TI) rfl (uV (ue lz rfl ?_)));show uP _ _ (sP (.ref z) >>= _) _ _ _;refine uV ?_;unfold sP;refine uV (um hz rfl (x:=.none) rfl (uQ ?_));simp only[qz];refine uV (rm (uV (um hz rfl (x:=.ref TO) rfl (uV (rj hz (by simp) fun g1 z1 e1=>?_)))));replace z1:IsZip g1 z TI TO .ellipsis:=z1;have k1:S1 k g1:=C1.keep h1 fun c hc o e=>e1.extBut _ _ (D.a1 c hc).1 e;refine uV ?_;simp only[List.zipIdx_cons,List.zipIdx_nil,wA,u9];refine uV (uV (wpAny_onRaise ?_));show uP _ _ (uo (.ref i1) >>= _) _ _ _;refine uV (C1.stop (s:={ s with heap:=g1 }) hh k1 hx fun g2 e e2 he=>?_);obtain⟨oe,hoe,hce⟩:=he;have z2:IsZip g2 z TI TO .ellipsis:=e2 _ _ d1.1.symm z1;have hez:e≠z:=fun q=>by subst q;rw[z2]at hoe;cases hoe;simp at hce
 exact rj z2 (by simp) fun g3 _ e3=>hE g3 e (fun c o hc q=>e3.extBut _ _ (fun q=>hc (by simp[q])) (e2 _ _ (fun q=>hc (by simp[q])) (e1.extBut _ _ (fun q=>hc (by simp[q])) q))) ⟨oe,e3.extBut _ _ hez hoe,hce⟩
end
abbrev LSt (i t:Addr)(xs:Array uT)(k:Nat)(h:Heap):Prop:=h.IsListIter i t k/\h.IsList t xs
theorem Nh {i t:Addr}(pC:t≠i):Src prog w i [i,t] (LSt i t xs) xs where
 item:=fun {A E s k x Q} st hx q=>by
  obtain⟨hi,ht⟩:=st;obtain⟨o,ho,hc,hd⟩:=id hi;obtain⟨ot,hot,ct,nt,jW⟩:=id ht;unfold uo;refine uV (ua (name:=uU "__next__") hi.typeIs rJ (tW rJ hi.typeIs PySem.entry_listiter_next ?_ (PySem.args_listiter_next _)));show uP _ _ (rH (.ref i) 0 >>= _) _ _ s;refine uV (um ho hd (x:=.ref t) rfl ?_);show uP _ _ (if (uI t==uk)=true then _ else _) _ _ s;rw[uL (by exact yC)];show uP _ _ (rH (.ref i) 1 >>= _) _ _ s;refine uV (um ho hd (x:=.int k 0) rfl ?_);show uP _ _ (rz (.ref t) >>= _) _ _ s;refine uV (ue hot jW ?_);simp only[yh,hx];refine uV (tD ho hd (by simp) (uQ ⟨x,rfl,uQ (q _ ⟨?_,?_⟩ (tq ..))⟩));exact⟨_,xW _ ho (sX (tT hd _)),(qw ..).trans hc,by rw[tT hd];simp[sW]⟩;exact ht.extBut (tq ..).extBut pC
 stop:=fun {A E s k Q} hh st hx q=>by
  obtain⟨hi,ht⟩:=st;obtain⟨o,ho,hc,hd⟩:=id hi;obtain⟨ot,hot,ct,nt,jW⟩:=id ht;unfold uo;refine uV (ua (name:=uU "__next__") hi.typeIs rJ (tW rJ hi.typeIs PySem.entry_listiter_next ?_ (PySem.args_listiter_next _)));show uP _ _ (rH (.ref i) 0 >>= _) _ _ s;refine uV (um ho hd (x:=.ref t) rfl ?_);show uP _ _ (if (uI t==uk)=true then _ else _) _ _ s;rw[uL (by exact yC)];show uP _ _ (rH (.ref i) 1 >>= _) _ _ s;refine uV (um ho hd (x:=.int k 0) rfl ?_);show uP _ _ (rz (.ref t) >>= _) _ _ s;refine uV (ue hot jW ?_);simp only[yh,hx];refine uV (rm (uV (tD ho hd (by simp) ?_)));show uP _ _ (newExc (.type "StopIteration") [] >>= _) _ _ _;refine uV ?_;simp only[newExc,newTuple];refine uV (tZ ?_ (by size_fits));refine uV (m:=rY _ _) (pR (a:=uk) (by first|rfl|(simp only[rY];rfl)) ?_);refine tZ ?_ (by size_fits);simp only[raiseNew];refine uV (wpAny_handled ?_);rw[show A.in1.handled=none from hh];exact uV (uQ (pQ (q _ _ (((tq ..).extBut.push _).push _) ⟨_,yN _ rfl,rfl⟩)))
 keep:=fun {h h' k} st kp=>by
  obtain⟨⟨o,ho,r⟩,⟨o',oH,r'⟩⟩:=st;exact⟨⟨o,kp i (by simp) o ho,r⟩,⟨o',kp t (by simp) o' oH,r'⟩⟩
 obj:=fun {h k} st=>let ⟨⟨o,ho,_⟩,_⟩:=st;⟨o,ho⟩
noncomputable abbrev zM1 (h:Heap)(l1:Addr):Heap:=h.push { cls:=.type "list_iterator",data:=.fields #[.ref l1,.int 0 0] }
noncomputable abbrev zM2 (h:Heap)(l1 l2:Addr):Heap:=(zM1 h l1).push { cls:=.type "tuple_iterator",data:=.fields #[.ref l2,.int 0 0] }
noncomputable abbrev zM3 (h:Heap)(l1 l2:Addr):Heap:=(zM2 h l1 l2).push { cls:=.type "tuple",data:=.seq #[.ref h.objs.size,.ref (zM1 h l1).objs.size] }
noncomputable abbrev zM4 (h:Heap)(l1 l2:Addr):Heap:=(zM3 h l1 l2).push { cls:=.type "tuple",data:=.seq #[.none,.none] }
noncomputable abbrev zM5 (h:Heap)(l1 l2:Addr):Heap:=(zM4 h l1 l2).push { cls:=.type "zip",data:=.fields #[.none,.bool false,.bool false,.ref (zM2 h l1 l2).objs.size,.ref (zM3 h l1 l2).objs.size] }
theorem Iy (l1 l2:Addr)(xs ys:Array uT) :
  Meets (sG.«zip.__new__» ⟨[.type "zip",.ref l1,.ref l2],[]⟩) (fun _ R s=>s.heap.IsList l1 xs/\s.heap.IsTuple l2 ys/\
   R (.ok (.ret (.ref (zM4 s.heap l1 l2).objs.size))) { s with heap:=zM5 s.heap l1 l2 }):=
 .of_wp fun prog w A R s h=>by
  obtain⟨hp,g,d,tk,os⟩:=s;obtain⟨mh,nu,h⟩:=h;have hsub:=PySem.sub_zip;have hL1:Heap.IsList (Shared.heap ⟨hp,g,d,tk,os⟩) l1 xs:=mh;have hL2:Heap.IsTuple (Shared.heap ⟨hp.push { cls:=.type "list_iterator",data:=.fields #[.ref l1,.int 0 0] },g,d,tk,os⟩) l2 ys:=Heap.IsTuple.push nu _
  wp_walk using sC hL1,rV hL2
  exact⟨_,Z,h⟩
theorem HG {l1 l2:Addr}{ys:Array uT}(mh:s.heap.IsList l1 xs)(nu:s.heap.IsTuple l2 ys)
  (h:∀ h',IsZip h' (s.heap.objs.size+4) (s.heap.objs.size+2) (s.heap.objs.size+3) .none->qW h' (s.heap.objs.size+2) (.ref s.heap.objs.size) (.ref (s.heap.objs.size+1))->
   qW h' (s.heap.objs.size+3) .none .none->h'.IsListIter s.heap.objs.size l1 0->h'.IsTupleIter (s.heap.objs.size+1) l2 0->
   (∀ c o,s.heap.get? c=some o->h'.get? c=some o)->Q (.ref (s.heap.objs.size+4)) { s with heap:=h' }) :
  uP (uM prog w) A (call (.type "zip") [.ref l1,.ref l2]) Q E s:=by
 refine callType_new F.called_zip (by decide) (F.typeCall_zip_2 _ _) (F.newCall_zip_2 _ _) (fun obj=>F.args_object_init_3 obj _ _) F.entry_zip_new (Iy l1 l2 xs ys) ⟨mh,nu,?_⟩;have z1:(zM1 s.heap l1).objs.size=s.heap.objs.size+1:=xV ..;have z2:(zM2 s.heap l1 l2).objs.size=s.heap.objs.size+2:=by rw[xV,z1]
 have z3:(zM3 s.heap l1 l2).objs.size=s.heap.objs.size+3:=by rw[xV,z2]
 have z4:(zM4 s.heap l1 l2).objs.size=s.heap.objs.size+4:=by rw[xV,z3]
 have up:∀ {h:Heap} {c:Addr} {o:Obj} (p:Obj),h.get? c=some o->(h.push p).get? c=some o:=fun p e=>yQ p e;have g5:(zM5 s.heap l1 l2).get? (zM4 s.heap l1 l2).objs.size=some _:=yN _ rfl;have g4:(zM5 s.heap l1 l2).get? (zM3 s.heap l1 l2).objs.size=some _:=up _ (yN _ rfl);have g3:(zM5 s.heap l1 l2).get? (zM2 s.heap l1 l2).objs.size=some _:=up _ (up _ (yN _ rfl));have g2:(zM5 s.heap l1 l2).get? (zM1 s.heap l1).objs.size=some _:=up _ (up _ (up _ (yN _ rfl)));have g1:(zM5 s.heap l1 l2).get? s.heap.objs.size=some _:=up _ (up _ (up _ (up _ (yN _ rfl))));show _/\_;rw[z2,z3,z4]at g5;rw[z1,z2]at g3;rw[z3]at g4;rw[z1]at g2;rw[z4];exact⟨⟨_,g5,Z⟩,h _ g5 g3 g4 ⟨_,g1,Z,Z⟩ ⟨_,g2,rfl,rfl⟩ fun c o x=>up _ (up _ (up _ (up _ (up _ x))))⟩
def Itzm (K:yS)(l1 l2:Addr):It:=
 ⟨fun i H=>∃ xs ys x y,SqL K H l1 xs/\SqT K H l2 ys/\xs[i]?=some x/\ys[i]?=some y,
 fun i H x H'=>∃ T a b,H T=none/\x=.ref T/\(∀ xs,SqL K H l1 xs->xs[i]?=some a)/\(∀ ys,SqT K H l2 ys->ys[i]?=some b)/\H'=upd H T (Ya T [a,b]),
 fun i H=>∃ xs,SqL K H l1 xs/\xs.length=i⟩
abbrev ZmSx (z TI TO i1 i2 l1 l2:Addr)(i:Nat)(h:Heap):Prop:=IsZip h z TI TO .none/\qW h TI (.ref i1) (.ref i2)/\(∃ a b,qW h TO a b)/\h.IsListIter i1 l1 i/\h.IsTupleIter i2 l2 i
variable{P:uE}{K:yS}{elts:List Expr}
theorem Hz (z TI TO i1 i2 l1 l2:Addr)(D:Rc z TI TO i1 i2 [i1,l1] [i2,l2])(n1:l1≠i1)(n2:l2≠i2) :
  Wv P w K (.Tuple elts k pos) (Itzm K l1 l2) [z,TI,TO,i1,i2] z (ZmSx z TI TO i1 i2 l1 l2) where
 mem:=by simp
 obj:=fun i h st b hb=>by
  obtain⟨hz,lz,⟨a,b',i0⟩,⟨o1,e1,c1,d1⟩,⟨o2,e2,c2,d2⟩⟩:=st;simp at hb;rcases hb with rfl|rfl|rfl|rfl|rfl;exact⟨_,hz,fun v z=>nomatch z⟩;exact⟨_,lz,fun v z=>nomatch z⟩;exact⟨_,i0,fun v z=>nomatch z⟩;exact⟨_,e1,fun v z=>by rw[d1]at z;cases z⟩;exact⟨_,e2,fun v z=>by rw[d2]at z;cases z⟩
 keep:=fun i h h' st kp=>by
  obtain⟨hz,lz,⟨a,b,i0⟩,h1,h2⟩:=st;exact⟨kp z (by simp) _ hz,kp TI (by simp) _ lz,⟨a,b,kp TO (by simp) _ i0⟩,h1.at fun o e=>kp i1 (by simp) o e,h2.at fun o e=>kp i2 (by simp) o e⟩
 item:=by
  intro X hP hw hK hc i pins s σ H E I hf st hg;subst hP hw hK;obtain⟨xs,ys,x,y,hx,hy,gx,gy⟩:=hg;obtain⟨ix,rx,px,zx⟩:=I.list hx;obtain⟨iy,ry,py,zy⟩:=I.tuple hy;obtain⟨u,hu,ru⟩:=rx.get gx;obtain⟨v,hv,rv⟩:=ry.get gy;obtain⟨hz,lz,⟨ta,tb,i0⟩,h1,h2⟩:=id st;have hT:s.TypeIs (.ref z) "zip":=⟨_,hz,rfl⟩;have lt:∀ {c o},s.heap.get? c=some o->s.heap.objs.size≠c:=fun e=>w9 (yM e);unfold rD;refine uV (ql (ua (name:=uU "__next__") hT F.slot_zip_next (tW F.slot_zip_next hT F.entry_zip_next
   (Gq (S1:=LSt i1 l1 ix.toArray) (S2:=TSt i2 l2 iy.toArray) D (Nh n1) (Hm n2) hz lz i0 ⟨h1,px.isList⟩ ⟨h2,py⟩ (by simpa using hu) (by simpa using hv) fun h' a1 a2 a3 a4 a5 hk=>uQ ⟨.ref s.heap.objs.size,rfl,?_⟩) (F.args_zip_next_1 _))))
  refine wpAny_letOwnedTupleGo_zip (s:={ s with heap:=h' }) a1 fun md z2 e2=>?_;have dy:∀ c o,c≠z->h'.get? c=some o->md.get? c=some o:=fun c o hc e=>e2.extBut _ _ hc e;have up:∀ c o,c∉[z,TO,i1,i2]->s.heap.get? c=some o->md.get? c=some o:=fun c o hc e=>dy c o (fun q=>hc (by simp[q])) (hk c o hc e);have j8:IsTup md s.heap.objs.size #[u,v]:=⟨_,dy _ _ (lt hz) a5,rfl,_,rfl⟩;have d1:=D.a1 i1 (by simp);have d2:=D.a2 i2 (by simp);refine⟨.ref s.heap.objs.size,upd H s.heap.objs.size (Ya s.heap.objs.size [x,y]),?_,Z,⟨_,x,y,I.hok.fresh (yO _),Z,fun zs cH=>by rw[Es I hx cH];exact gx,fun zs cH=>by rw[I.tuple_inj cH hy];exact gy,Z⟩,
   ⟨z2,up _ _ (by simp[D.TIz,D.TITO,D.TIi1,D.TIi2]) lz,⟨_,_,dy _ _ D.TOz a2⟩,a3.1.at fun o e=>dy _ o d1.1 e,a4.1.at fun o e=>dy _ o d2.1 e⟩,fun b hb=>?_⟩
  refine I.turnLaid (s:=s) (h':=md) (t':=s.toks) hf (yO _) (fun b ob hb q=>?_) (Lr ⟨by show 2<=uR;decide,[u,v],.cons ru (.cons rv .nil),j8⟩);exact up b ob (fun z=>hb (by simp at z ⊢;rcases z with h|h|h|h<;>simp[h])) q;have hbT:b≠s.heap.objs.size:=fun zz=>by
   have:b<s.heap.objs.size:=by
    obtain⟨o1,q1,_⟩:=h1;obtain⟨o2,q2,_⟩:=h2;simp at hb;rcases hb with rfl|rfl|rfl|rfl|rfl;exact yM hz;exact yM lz;exact yM i0;exact yM q1;exact yM q2
   rw[zz]at this;exact xN _ this
  rw[Z5 hbT];exact (hf b hb).1
 done:=by
  intro X hP hw hK hc i pins s σ H E I hf st hs;subst hP hw hK;obtain⟨xs,hx,hle⟩:=hs;obtain⟨ix,rx,px,zx⟩:=I.list hx;obtain⟨hz,lz,⟨ta,tb,i0⟩,h1,h2⟩:=id st;have hT:s.TypeIs (.ref z) "zip":=⟨_,hz,rfl⟩;unfold rD;refine uV (ql (ua (name:=uU "__next__") hT F.slot_zip_next (tW F.slot_zip_next hT F.entry_zip_next
   (HH (a:=ta) (b:=tb) (S1:=LSt i1 l1 ix.toArray) D (Nh n1) (I.ok.hd hc) hz lz ⟨h1,px.isList⟩ (by simp;rw[<-rx.length,hle];exact yO _) fun h' e hk he=>?_) (F.args_zip_next_1 _))))
  obtain⟨o,ho,hce⟩:=he;refine uV (qQ (T:="StopIteration") (b:=true) ⟨o,ho,hce⟩ isSubtype_stop ?_);refine uQ ⟨rfl,?_⟩;exact I.turnedL hf fun b ob hb q=>hk b ob (fun z=>hb (by simp at z ⊢;rcases z with h|h|h|h<;>simp[h])) q
 self:=fun A i s Q E st h=>wpAny_pyIter_zip st.1 h
def JI (K:yS)(ta:TA):TI:=fun σ H R=>ta σ H fun vs H1=>∃ a b,vs=[.ref a,.ref b]/\(∃ xs,SqL K H1 a xs)/\(∃ ys,SqT K H1 b ys)/\R (Itzm K a b) H1
theorem Ei {l1 l2:Expr}{ta:TA}{p pos:Pos}(hg:Gl X "zip")(hm:X.mg "zip"=none)(ha:PA X [l1,l2] ta)(hs:uB [l1,l2] X.env=[(false,eval l1 X.env),(false,eval l2 X.env)]:=by rfl)(iG:uB [l2] X.env=[(false,eval l2 X.env)]:=by rfl) :
  PI X (.Tuple elts k nX) (.Call (.Name "zip" p) [l1,l2] [] pos) (JI X.K ta):=by
 intro pins s σ H R I h;refine Call_ (Wc I hg hm Ey (sO (thn (ha pos pins s σ H _ I h) fun us s1 ⟨vs,H1,I1,r1,q1⟩=>?_) (by rw[hs,iG]) (by rw[iG];rfl)));obtain⟨a,b,rfl,⟨xs,hx⟩,⟨ys,hy⟩,q⟩:=q1;obtain⟨u,v,rfl,ru,rv⟩:=TN r1;obtain rfl:u=uI a:=ru;obtain rfl:v=uI b:=rv;obtain⟨ix,rx,px,zx⟩:=I1.list hx;obtain⟨iy,ry,py,zy⟩:=I1.tuple hy;have ha:a<s1.heap.objs.size:=by obtain⟨o,ho,_⟩:=px.isList;exact yM ho
 have hb:b<s1.heap.objs.size:=by obtain⟨o,ho,_⟩:=id py;exact yM ho
 refine HG px.isList py fun h' q1 q2 q3 q4 q5 hk=>?_;refine wpAny_pyIter_zip q1 ?_;have I2:Inv X pins σ H1 { s1 with heap:=h' }:=I1.kept (t':=s1.toks) hk;have ha':∀ k:Nat,a≠s1.heap.objs.size+k:=fun k=>yv (yz ha (Nat.le_add_right _ k));have lA:∀ k:Nat,b≠s1.heap.objs.size+k:=fun k=>yv (yz hb (Nat.le_add_right _ k));have nn:∀ i j:Nat,i≠j->s1.heap.objs.size+i≠s1.heap.objs.size+j:=fun i j h z=>h (Nat.add_left_cancel z);have D:Rc (s1.heap.objs.size+4) (s1.heap.objs.size+2) (s1.heap.objs.size+3) s1.heap.objs.size (s1.heap.objs.size+1) [s1.heap.objs.size,a] [s1.heap.objs.size+1,b]:=by
  refine⟨nn 2 4 (by decide),nn 3 4 (by decide),nn 2 3 (by decide),nn 2 0 (by decide),nn 2 1 (by decide),fun c hc=>?_,fun c hc=>?_,by simp,by simp⟩;simp at hc;rcases hc with rfl|rfl;exact⟨nn 0 4 (by decide),nn 0 3 (by decide),nn 0 1 (by decide)⟩;exact⟨ha' 4,ha' 3,ha' 1⟩;simp at hc;rcases hc with rfl|rfl;exact⟨nn 1 4 (by decide),nn 1 3 (by decide),nn 1 0 (by decide)⟩;exact⟨lA 4,lA 3,lA 0⟩
 refine⟨s1.heap.objs.size+4,[s1.heap.objs.size+4,s1.heap.objs.size+2,s1.heap.objs.size+3,s1.heap.objs.size,s1.heap.objs.size+1],_,_,H1,Z,I2,Hz _ _ _ _ _ _ _ D (ha' 0) (lA 1),⟨q1,q2,⟨_,_,q3⟩,q4,q5⟩,fun c hc=>?_,q⟩;have hle:s1.heap.objs.size<=c:=by
  simp at hc;rcases hc with rfl|rfl|rfl|rfl|rfl<;>(show s1.heap.objs.size<=_;lia)
 exact I1.fpOk hle (I1.hok.fresh hle)
def XW (n:Nat)(Pv:Nat->List V->St->Hp->Prop)(d:Addr)(i m:Nat)(σ:St)(H:Hp):Prop:=m=n-i/\i<=n/\∃ xs,Pv i xs σ H/\H d=some (.lst xs)
def OV (n:Nat)(Pv:Nat->List V->St->Hp->Prop)(d:Addr)(i:Nat)(σ3:St)(y:V)(H4:Hp):Prop:=∃ xs,H4 d=some (.lst xs)/\xs.length<uR/\∃ m',m'<n-i/\XW n Pv d (i+1) m' σ3 (upd H4 d (.lst (xs++[y])))
def Kb (n:Nat)(Pv:Nat->List V->St->Hp->Prop)(d:Addr)(i:Nat)(σ3:St)(H4:Hp):Prop:=∃ m',m'<n-i/\XW n Pv d (i+1) m' σ3 H4
variable{Pv:Nat->List V->St->Hp->Prop}{d:Addr}
theorem U5 {n:Nat}{i:Nat}{y:V}{H4:Hp}{xs:List V}(hi:i<n)(hd:H4 d=some (.lst xs))(hl:xs.length<=1000)(hp:Pv (i+1) (xs++[y]) σ3 (upd H4 d (.lst (xs++[y])))):OV n Pv d i σ3 y H4:=
 ⟨xs,hd,YN hl,n-(i+1),by omega,rfl,hi,_,hp,Z0⟩
theorem zr {n:Nat}{i:Nat}{H4:Hp}{xs:List V}(hi:i<n)(hd:H4 d=some (.lst xs))(hp:Pv (i+1) xs σ3 H4):Kb n Pv d i σ3 H4:=
 ⟨n-(i+1),by omega,rfl,hi,_,hp,hd⟩
variable{g:TG}{te:TE}
theorem Ut {J:It}{σ0:St}{Q:Addr->Hp->Prop}(n:Nat)(Pv:Nat->List V->St->Hp->Prop)(h0:Pv 0 [] σ0 (upd H1 d (.lst [])))
  (go:∀ i xs σ H,i<n->Pv i xs σ H->H d=some (.lst xs)->J.go i H/\∀ x H2,J.yld i H x H2->g x σ H2 fun σ3 H3=>te σ3 H3 fun y H4=>OV n Pv d i σ3 y H4)
  (stop:∀ xs σ H,Pv n xs σ H->H d=some (.lst xs)->J.stop n H/\Q d H) :
  ∃ W:Nat->Nat->St->Hp->Prop,(∃ m,W 0 m σ0 (upd H1 d (.lst [])))/\∀ i m σ' H',W i m σ' H'->
   (J.stop i H'/\Q d H')\/(J.go i H'/\∀ x H2,J.yld i H' x H2->g x σ' H2 fun σ3 H3=>te σ3 H3 fun y H4=>∃ xs,H4 d=some (.lst xs)/\xs.length<uR/\∃ m',m'<m/\W (i+1) m' σ3 (upd H4 d (.lst (xs++[y])))):=by
 refine⟨XW n Pv d,⟨n,by simp,xY _,[],h0,Z0⟩,?_⟩;rintro i m σ H ⟨rfl,hi,xs,p,hd⟩;by_cases pJ:i<n;exact .inr (go i xs σ H pJ p hd);have:i=n:=by omega
 subst this;exact .inl (stop xs σ H p hd)
theorem Hk {J:It}{tt:TT}{σ0:St}{Q:Addr->Hp->Prop}(n:Nat)(Pv:Nat->List V->St->Hp->Prop)(h0:Pv 0 [] σ0 (upd H1 d (.lst [])))
  (go:∀ i xs σ H,i<n->Pv i xs σ H->H d=some (.lst xs)->J.go i H/\∀ x H2,J.yld i H x H2->g x σ H2 fun σ3 H3=>tt σ3 H3 fun b H4=>if b=true then te σ3 H4 fun y H5=>OV n Pv d i σ3 y H5 else Kb n Pv d i σ3 H4)
  (stop:∀ xs σ H,Pv n xs σ H->H d=some (.lst xs)->J.stop n H/\Q d H) :
  ∃ W:Nat->Nat->St->Hp->Prop,(∃ m,W 0 m σ0 (upd H1 d (.lst [])))/\∀ i m σ' H',W i m σ' H'->
   (J.stop i H'/\Q d H')\/(J.go i H'/\∀ x H2,J.yld i H' x H2->g x σ' H2 fun σ3 H3=>tt σ3 H3 fun b H4=>if b=true then te σ3 H4 fun y H5=>∃ xs,H5 d=some (.lst xs)/\xs.length<uR/\∃ m',m'<m/\W (i+1) m' σ3 (upd H5 d (.lst (xs++[y])))
    else ∃ m',m'<m/\W (i+1) m' σ3 H4):=by
 refine⟨XW n Pv d,⟨n,by simp,xY _,[],h0,Z0⟩,?_⟩;rintro i m σ H ⟨rfl,hi,xs,p,hd⟩;by_cases pJ:i<n;exact .inr (go i xs σ H pJ p hd);have:i=n:=by omega
 subst this;exact .inl (stop xs σ H p hd)
theorem LK (val:Nat->Int):∀ n:Nat,tJ (fun i j=>decide (val i<val j)) n<=n/\∀ j,j<=n->val (tJ (fun i j=>decide (val i<val j)) n)<=val j
 | 0=>⟨yO _,fun j hj=>by (have:j=0:=(by lia);subst this;exact Int.le_refl _)⟩
 | n+1=>by
  obtain⟨h1,h2⟩:=LK val n;show (if decide (val (n+1)<val (tJ (fun i j=>decide (val i<val j)) n))=true then n+1 else tJ (fun i j=>decide (val i<val j)) n)<=n+1/\_;show _/\∀ j,j<=n+1->val (if decide (val (n+1)<val (tJ (fun i j=>decide (val i<val j)) n))=true then n+1 else tJ (fun i j=>decide (val i<val j)) n)<=val j;by_cases c:val (n+1)<val (tJ (fun i j=>decide (val i<val j)) n);rw[uK (uO c)];refine⟨yO _,fun j hj=>?_⟩;rcases yb j (n+1) with d|d;have:=h2 j (by lia);lia;have:j=n+1:=by lia
  subst this;exact Int.le_refl _;rw[uL (by rw[uH];exact c)];refine⟨by lia,fun j hj=>?_⟩;rcases yb j (n+1) with d|d;exact h2 j (by lia);have:j=n+1:=by lia
  subst this;lia
theorem MZ:uh "min"=some (.builtin "min"):=by decide +kernel
theorem G4 (hc:X.calm=true):Y7 X (.builtin "min") (fun xs H Q=>∃ (p:Addr) (ns:List Int),xs=[.ref p]/\SqL X.K H p (ns.map V.int)/\ns≠[]/\∀ m,m∈ns->(∀ y∈ns,m<=y)->Q (.int m) H):=by
 intro pins s σ H xs us Q I r h;obtain⟨p,ns,rfl,hq,pC,q⟩:=h;obtain⟨u,rfl,ru⟩:=YX r;obtain rfl:u=uI p:=ru;obtain⟨pL,rv,pl,hz⟩:=I.list hq;have hL:=pl.isList;have pJ:p<s.heap.objs.size:=by obtain⟨o,ho,_⟩:=id hL;exact yM ho
 have hlen:pL.length=ns.length:=by rw[<-rv.length];simp
 have j6:0<ns.length:=wI.mpr pC;have ny:∀ i v,pL.toArray[i]?=some v->∃ t,v=qV (ns.getD i 0) t:=fun i v hP=>by
  have hv:pL[i]?=some v:=by simpa using hP
  have hi:i<ns.length:=by rw[<-hlen];exact (yP.mp hv).1
  have hb:(ns.map V.int)[i]?=some (.int ns[i]):=by simp[hi]
  obtain⟨u,hu,t,rfl⟩:=rv.get hb;rw[hv]at hu;cases hu;exact⟨t,by simp[yG,hi]⟩
 refine call_min_walk (sC hL ⟨s.heap.objs.size,_,_,pL.toArray.size,_,_,_,rfl,Walks.list (A:=X.A.in1) (I.ok.hd hc) s.heap.objs.size p (yv pJ) pL.toArray,⟨⟨_,yN _ rfl,rfl,rfl⟩,hL.push _⟩,fun b hb=>?_,by rw[yt];lia,CmpOf.ints_lt (fun i=>ns.getD i 0) ny,fun v h' tk hP hk=>?_⟩);rw[xV];simp at hb;rcases hb with rfl|rfl;exact xr _;exact xZ pJ;obtain⟨t,rfl⟩:=ny _ v hP;obtain⟨b1,b2⟩:=LK (fun i=>ns.getD i 0) (pL.toArray.size-1);rw[yt,hlen]at b1 b2 hP ⊢;generalize tJ (fun i j=>decide (ns.getD i 0<ns.getD j 0)) (ns.length-1)=k at b1 b2 hP ⊢;have gn:k<ns.length:=by lia
 refine⟨.int (ns.getD k 0),H,?_,⟨t,Z⟩,q _ ?_ fun y hy=>?_⟩;refine I.kept fun b o e=>hk b o (fun hb=>?_) (yQ _ e);have:=yM e;simp at hb;rw[hb]at this;exact xN _ this;simp[yG,gn];obtain⟨j,hj,rfl⟩:=yc.mp hy;have:=b2 j (by lia);simpa [yG,hj] using this
theorem MN (val:Nat->Int)(i:Nat):∀ k,(qS val (i+k)).length<=(qS val i).length+k
 | 0=>yO _
 | k+1=>by
  have ih:=MN val i k;rw[show i+(k+1)=(i+k)+1 from rfl,firstMet_succ];unfold step_dedup;split;omega;rw[yJ];simp;omega
theorem Ha {r:List Nat}(h:¬ r.Nodup):We r<r.length:=by
 have:∃ i j,i<j/\∃ (hj:j<r.length) (hi:i<r.length),r[i]=r[j]:=by
  apply tR;intro hn;refine h (wX.mpr fun i j hi hj gm e=>hn ⟨i,j,gm,hj,hi,e⟩)
 obtain⟨i,j,gm,hj,hi,e⟩:=this;unfold We;have v:∀ (k:Nat) (hk:k<r.length),(r.map fun (n:Nat)=>(n:Int)).getD k 0=(r[k]:Int):=fun k hk=>by simp[yG,hk]
 have hany:(qS (fun i=>(r.map fun (n:Nat)=>(n:Int)).getD i 0) j).any (· == (r[j]:Int))=true:=by
  rw[firstMet_any,xq];refine⟨(r[i]:Int),yE.mpr ⟨i,yL.mpr gm,v i hi⟩,?_⟩;rw[e];simp
 have hs:(qS (fun i=>(r.map fun (n:Nat)=>(n:Int)).getD i 0) (j+1)).length<=j:=by
  rw[firstMet_succ];unfold step_dedup;rw[v j hj,uK hany];exact firstMet_length_le _ _
 have:=MN (fun i=>(r.map fun (n:Nat)=>(n:Int)).getD i 0) (j+1) (r.length-(j+1));rw[show j+1+(r.length-(j+1))=r.length by omega]at this;omega
noncomputable def V2 (K:yS)(C f:Addr):Bool:=match K.lookup C with
 | some ⟨.type "type",_,.cls kl,z⟩=>(match kl.mro,z.toList with
  | .ref C2::tl,[_,_,_,_,some (.builtin made),_]=>(C2==C&&made == "ValueError.__new__")&&(!kl.hasDel&&kl.hasDict)&&PySem.W.tailIn K vE tl&&PySem.W.nsOkIn K kl.ns&&yF K kl.ns "__init__" == some (some (.ref f))
  | _,_=>false)
 | _=>false
variable{h:Heap}{v:uT}
theorem Ij {N:Addr}{n:Str}(X:K.In h)(ok:PySem.W.nsOkIn K N=true)(e:yF K N n=some (some v)):h.nsMap N n=some v:=by
 have G:h.Ns N (h.nsMap N):=.of_isNs (vf X ok);obtain⟨o,es,ep,ho,hd,_,hf⟩:=G;unfold yF at e;split at e
 ·rename_i q;have z:=X _ _ q;rw[ho]at z;cases z;cases hd;split at e
  ·rename_i he;cases e;rw[<-hf];unfold nsFind findBy;rw[<-Array.find?_toList,he];rfl
  split at e<;>cases e
 cases e
variable{f:Addr}
theorem Sm {C:Addr}(q:V2 K C f=true)(k:K.In h) :
  ∃ bm N nm qn bs sn sub ab col dd k0 k1 k2 k3 k5 mN,h.get? C=some (excClassObj nm qn C N bs bm true sn sub ab col dd k0 k1 k2 k3 k5 "ValueError.__new__")/\h.Ns N mN/\mN "__init__"=some (.ref f)/\OwnTail h vE bm:=by
 unfold V2 at q;split at q
 ·rename_i dd cd sl ho;split at q
  ·rename_i C1 bm k0 k1 k2 k3 n k5 hm hs;simp only[yy,tf,u3]at q;obtain⟨⟨⟨⟨⟨e1,e2⟩,hdel,hdi⟩,ht⟩,hok⟩,hni⟩:=q;subst e1 e2;cases cd;dsimp only at hm hdel hdi hok hni;subst hm hdel hdi;have esl:sl=#[k0,k1,k2,k3,some (.builtin "ValueError.__new__"),k5]:=by
    cases sl;simp only at hs;rw[hs]
   subst esl;exact⟨bm,_,_,_,_,_,_,_,_,dd,k0,k1,k2,k3,k5,_,k _ _ ho,.of_isNs (vf k hok),Ij k hok hni,PySem.W.tail_of_in k ht⟩
  cases q
 cases q
theorem IE {self:uT}{dA:Str}{bmB tl:List uT}(T:OwnTail h bmB tl):refuseLoop self dA tl=refuseLoop self dA bmB:=by
 induction T with
 | base=>rfl
 | own _ _ _ _ ih=>rw[refuseLoop_ref,ih]
variable{vs:Array uT}{name:Str}
section
variable {C e:Addr}
theorem Dz {o:Obj}{Q:Unit->uS->Prop}(X:K.In s.heap)(q:V2 K C f=true)(he:s.heap.get? e=some o)(hc:o.cls=.ref C)(hd:o.dict=none)(hf:o.data=.fields vs)
  (hs:yD K (.ref C) "__setattr__"=some (some (.builtin "object.__setattr__"))) (hm:xm K C (.type "object")=some true) (hn:yD K (.ref C) name=some none)
  (h:∀ h' tk,h'.Ns1 s.heap.objs.size (fun y=>if y=name then some v else none)->h'.get? e=some { o with dict:=some s.heap.objs.size }->(∀ b ob,b≠e->s.heap.get? b=some ob->h'.get? b=some ob)->Q () { s with heap:=h',toks:=tk }) :
  uP (uM prog w) A (setAttr (.ref e) name v) Q E s:=by
 obtain⟨bm,N,nm,qn,bs,sn,sub,ab,col,dd,k0,k1,k2,k3,k5,mN,oC,nN,ni,TL⟩:=Sm q X;have I:xu s.heap e o C none:=⟨he,hc,by unfold wq;rw[hf],by rw[hd];trivial⟩;have SF:=PySem.F.store_object;refine PySem.W.set_plain X I hs ?_;have sub:vZ (uM prog w) s.heap (qy (.ref e) (.type "object")) true:=I.type.andThen (PySem.W.looks_mroIn X hm);refine qR SF.slot.plain SF.entry (@PySem.W.check_slot (uM prog w) _ _ _ "object.__setattr__" "object" "__setattr__" (.ref e) [.str name s.toks,v] [] _ SF.kind SF.split sub (SF.args (.ref e) (.str name s.toks) v) ?_);rw[PySem.W.osa_eq,refuse_eq];have I1:=I.type (M:=uM prog w);have I2:=wu (M:=uM prog w) X hn;obtain⟨hp,g,dr,tk,os⟩:=s;dsimp only at *;refine uV (uV (I1.at (uV (wpAny_mroOf_exc oC ?_))));rw[refuseLoop_ref,IE TL,PySem.F.store_ValueError.passes];refine uQ (uV (I1.at (uV (I2.at ?_))));refine uV (m:=Builtin.ObjectAttr.storeTaker? none) (uQ ?_);dsimp only;unfold Builtin.ObjectAttr.storeInOwnDict;refine uV (m:=ownStreamTells _ _) (uQ ?_);rw[uL (show ¬ (uI C==tP "module")=true by intro z;cases tf.mp z)];refine uV ?_;show uP _ _ (instanceDict e true) _ _ _;unfold instanceDict;refine uV (sr he ?_);obtain⟨oc,od,odt,oR⟩:=o;dsimp only at hc hd hf;subst hc hd hf;dsimp only;unfold classData;refine uV (uV (sr oC (uQ ?_)));rw[uL (by simp),uL (by simp[typeHasDict])];have hx1:=yQ (h:=hp) { cls:=.type "dict",data:=.dict #[] } he;have hxs:e≠hp.objs.size:=yv (yM he);refine uV (wpAny_alloc (uV (wpAny_update hx1 (uQ ?_))));dsimp only;have gF:=xW (fun o:Obj=>{ cls:=o.cls,dict:=some hp.objs.size,data:=o.data,slots:=o.slots }) hx1 rfl;have hgd:((hp.push { cls:=.type "dict",data:=.dict #[] }).update e fun o=>{ cls:=o.cls,dict:=some hp.objs.size,data:=o.data,slots:=o.slots }).get? hp.objs.size=some { cls:=.type "dict",data:=.dict #[] }:=
  (Heap.get?_update_ne _ _ _ _ hxs.symm).trans (Heap.get?_push_at rfl rfl)
 unfold Builtin.ObjectAttr.storeInDict Builtin.ObjectAttr.newKeyGuard;refine uV (uQ (uV (wpAny_nsSet1 (Heap.Ns1.of_empty ⟨_,#[],_,hgd,rfl,fun y hy=>absurd hy (by simp),fun _=>rfl⟩) fun h2 gw iG=>?_)));obtain⟨oD,esD,epD,hoD,hdD,hcD⟩:=gw.count (Within.cons name v Within.nil);refine uV (wpAny_lookBehind hoD (by rw[hdD];exact pastItsLine_dict (xQ hcD (by rw[yi,wR,rg];omega))) ?_);refine uQ (h _ _ gw ((iG.2 e hxs).trans gF) fun b ob nb hb=>?_);exact (iG.2 b (yv (yM hb))).trans ((Heap.get?_update_ne _ _ _ _ nb).trans (yQ _ hb))
theorem D2 {o:Obj}{v v0:uT}(X:K.In s.heap)(q:V2 K C f=true)(he:s.heap.get? e=some o)(hc:o.cls=.ref C)(hf:o.data=.fields vs)(hz:vs[0]?=some v0)
  (h:∀ h' t,h'.get? e=some { o with data:=.fields (vs.setIfInBounds 0 (.ref t)) }->(∀ b ob,b≠e->s.heap.get? b=some ob->h'.get? b=some ob)->Q .none { s with heap:=h' }) :
  uP (uM prog w) A (call (.builtin "ValueError.__init__") [.ref e,v]) Q E s:=by
 obtain⟨bm,N,nm,qn,bs,sn,sub,ab,col,dd,k0,k1,k2,k3,k5,mN,oC,nN,ni,TL⟩:=Sm q X;have FB:=rO;obtain⟨hp,g,dr,tk,os⟩:=s;dsimp only at *;refine rN (qR FB.init.plain FB.initEntry (wpAny_check_init_subT FB TL oC he hc ?_));have pJ:0<vs.size:=(xg.mp hz).1;have jY:=yQ (h:=hp) { cls:=.type "tuple",data:=.seq [v].toArray } he;unfold sG.«BaseException.__init__»;dsimp only;rw[uL (by decide)];refine uV (wpAny_newTuple ?_);refine uV ?_;show uP _ _ (rH (.ref e) 0 >>= _) _ _ _;refine uV (um jY hf hz (uV (tD jY hf pJ ?_)));have gk:=xW (sj (·.setIfInBounds 0 (uI hp.objs.size))) jY (sX (tT hf _));have fin:∀ {x:uS},x=⟨(hp.push { cls:=.type "tuple",data:=.seq [v].toArray }).update e (sj (·.setIfInBounds 0 (uI hp.objs.size))),g,dr,tk,os⟩->Q .none x:=by
  rintro _ rfl;refine h _ hp.objs.size ?_ fun b ob nb hb=>?_;rw[gk];obtain⟨oc,od,odt,oR⟩:=o;cases hf;rfl;exact (yj _ _ (uc nb)).trans (yQ _ hb)
 cases v0 with
 | ref t0=>exact qI (uQ (fin rfl))
 | _=>exact uQ (uQ (fin rfl))
theorem Fz {rest:List uT}{bm bs:List uT}{N:Addr}{nm qn:Str}{sn:List Str}{sub:List uT}{ab:Bool}{col:Option Bool}{dd:Option Addr}{k0 k1 k2 k3 k5:Option uT}{mN:Str->Option uT}{fo:Obj}
  (oC:s.heap.get? C=some (excClassObj nm qn C N bs bm true sn sub ab col dd k0 k1 k2 k3 k5 "ValueError.__new__")) (nN:s.heap.Ns N mN) (ni:mN "__init__"=some (.ref f)) (TL:OwnTail s.heap vE bm) (hfo:s.heap.get? f=some fo) (hfc:fo.cls=.type "function") (hl:rest.length<=uR)
  (h:∀ h' x,vP s.heap h' x (.ref C) rest->uP (uM prog w) (A.under (.builtin "type.__call__" ⟨.ref C::rest,[]⟩)) (call (.ref f) (.ref x::rest)) (fun r s2=>r=.none/\Q (.ref x) s2) E { s with heap:=h' }) :
  uP (uM prog w) A (call (.ref C) rest) Q E s:=by
 have FB:=rO;obtain⟨hp,g,dr,tk,os⟩:=s;dsimp only at *;have f1:=tc_lookup;have f2:=tc_bind (.ref C);have hT:(⟨hp,g,dr,tk,os⟩:uS).TypeIs (.ref C) "type":=⟨_,oC,rfl⟩;refine rN (codeAny_of_tree ?_);show uP _ _ (callAny (.ref C) _) _ _ _
 repeat (any_goals (first|assumption|with_reducible refine sr oC ?_|wp_step))
 refine⟨Z,codeAny_call_builtin_at (qE _ (by decide +kernel)) entry_typeCall (wpAny_check_type_call_sub oC ?_)⟩
 repeat (first|with_reducible refine sr oC ?_|with_reducible refine wpAny_madeBy_exc oC ?_|wp_step)
 refine codeAny_call_builtin_code (qE _ FB.quiet) (wpAny_check_new_subT FB TL oC (codeAny_exc_new_subT FB TL oC ?_ hl));show uP _ _ _ _ _ (⟨(hp.push { cls:=.type "tuple",data:=.seq rest.toArray }).push { cls:=.ref C,data:=.fields #[.ref hp.objs.size,.none,.none,.none,.bool false,.none] },g,dr,tk,os⟩:uS);generalize hh1:((hp.push { cls:=.type "tuple",data:=.seq rest.toArray }).push { cls:=.ref C,data:=.fields #[.ref hp.objs.size,.none,.none,.none,.bool false,.none] })=h1;have kp:∀ b ob,hp.get? b=some ob->h1.get? b=some ob:=fun b ob hb=>by rw[<-hh1];exact yQ _ (yQ _ hb)
 have hx:h1.get? (hp.objs.size+1)=some { cls:=.ref C,data:=.fields #[.ref hp.objs.size,.none,.none,.none,.bool false,.none] }:=by rw[<-hh1];heap_get
 have ht:h1.get? hp.objs.size=some { cls:=.type "tuple",data:=.seq rest.toArray }:=by rw[<-hh1];exact yQ _ (Heap.get?_push_at rfl rfl)
 have oC1:=kp _ _ oC;have hcC:(uI C::bm).contains (.ref C)=true:=by simp
 unfold qy
 repeat (first|with_reducible refine sr hx ?_|(with_reducible refine wpAny_isSubtype_exc oC1 ?_;rw[hcC])|wp_step)
 show uP _ _ (typeLookup (.ref C) _) _ _ _;refine wpAny_typeLookup_tail oC1 (nN.keeps kp) (TL.keeps kp) FB.mroIs FB.init.lookup ?_;rw[ni];refine sk (uV ?_);unfold bindSpecial;refine uV (wpAny_typeOf (T:="function") ⟨_,kp _ _ hfo,hfc⟩ ?_);rw[uK (by decide)];refine uQ (uV (uA (h h1 (hp.objs.size+1) ⟨kp,vD (wJ _),hp.objs.size,hx,vD (yO _),ht⟩) (fun r s2 hr=>?_) fun _ _ z=>z));obtain⟨rfl,hQ⟩:=hr
 wp_walk
 exact hQ
theorem Hr {x:Sem uT}{Q:Flow->uS->Prop}(hh:A.handled=none)
  (h:uP (uM prog w) A x (fun v s1=>∃ e0 o0 bm N nm qn bs sn sub ab col dd k0 k1 k2 k3 k5,v=.ref e0/\s1.heap.get? C=some (excClassObj nm qn C N bs bm true sn sub ab col dd k0 k1 k2 k3 k5 "ValueError.__new__")/\OwnTail s1.heap vE bm/\s1.heap.get? e0=some o0/\o0.cls=.ref C/\(∃ ws,o0.data=.fields ws/\ws[1]?=some .none)/\E (.ref e0) s1) E s) :
  uP (uM prog w) A (raiseStmt env (some x) none) Q E s:=by
 unfold raiseStmt;refine uV (uA h (fun v s1 hv=>?_) fun _ _ z=>z);obtain⟨e0,o0,bm,N,nm,qn,bs,sn,sub,ab,col,dd,k0,k1,k2,k3,k5,rfl,oC,TL,he,hc,⟨ws,hw,h1⟩,hE⟩:=hv;have FB:=rO;have hb:(uI C::bm).contains (.type "BaseException")=true:=by rw[List.contains_cons,TL.hasType FB.hasBase,Bool.or_true]
 obtain⟨hp,g,dr,tk,os⟩:=s1
 repeat (first|(with_reducible refine sr he ?_;rw[hc])|with_reducible refine sr oC ?_|(with_reducible refine wpAny_isSubtype_exc oC ?_;rw[hb])|wp_step)
 rw[hw];refine uQ ?_;rw[h1];refine uQ ?_;rw[uL (by decide)];exact uQ (wpAny_raiseNew_none hh hE)
end
noncomputable def exN (e:Addr)(C:uT)(d:Option Addr):HO:=.ext fun h=>∃ o vs,h.get? e=some o/\o.cls=C/\o.dict=d/\o.data=.fields vs/\vs[1]?=some .none/\vs[2]?=some .none
variable{C:uT}{e:Addr}
theorem Py {d:Option Addr}(x:∃ o vs,h.get? e=some o/\o.cls=C/\o.dict=d/\o.data=.fields vs/\vs[1]?=some .none/\vs[2]?=some .none):ZC P w H h e (exN e C d):=by
 obtain⟨o,vs,h1,h2⟩:=id x;exact⟨x,⟨o,h1⟩,fun g1 g2 ⟨o',vs',q1,q2⟩ k=>⟨o',vs',k _ q1,q2⟩⟩
theorem BW {o:HO}(h:H a=some o):upd H a o=H:=by
 funext b;unfold upd;split
 ·rename_i e;rw[e,h]
 rfl
structure OH (K:yS)(S:Addr):Prop where
 rd:PySem.W.readsIn K S (.type "type")=true
 fc:PySem.W.findCls K (.ref S) (.type "type") "__init__"=some (.val (.builtin "ValueError.__init__"))
 sp:xC K (.ref S) "__getattribute__"=some (some (.builtin "type.__getattribute__"))
structure Tv (K:yS)(C f:Addr)(name:Str):Prop where
 ex:V2 K C f=true
 sa:yD K (.ref C) "__setattr__"=some (some (.builtin "object.__setattr__"))
 mo:xm K C (.type "object")=some true
 na:yD K (.ref C) name=some none
 kp:yf K (.ref C)=true
 fn:wY K (.ref f)=some (.type "function")
def zX (C:Addr)(ta:TA):TE:=fun σ H Q=>ta σ H fun vs H1=>∃ e v d,vs=[.ref e,v]/\H1 e=some (exN e (.ref C) d)/\Q .non H1
def zU (C:Addr)(ta tv:TE)(f:Str):TS:=fun D σ H=>tv σ H fun y H1=>ta σ H1 fun x H2=>∃ e,x=.ref e/\H2 e=some (exN e (.ref C) none)/\∀ dx,H2 dx=none->dx≠e->D.nx σ (upd (upd H2 dx (.xd [(f,y)])) e (exN e (.ref C) (some dx)))
variable{e₀:Expr}
section
variable {C SA fI:Addr}{x:Str}{o value:Expr}{es:List Expr}{ta tv:TE}{t:TA}{np apos pos':Pos}
theorem DO {pl:Sem Bool}(q:V2 X.K C fI=true)(S:OH X.K SA)(hg:Gl X x)(hm:X.mg x=some (.ref SA))(ha:PA X (e₀::es) t)(oQ:(x==("__debug__":Str))=false:=by decide)
  (oK:uB (e₀::es) X.env=(false,eval e₀ X.env)::uB es X.env:=by rfl) (oJ:(sL pos (uB es X.env)).any (·.1)=false:=by rfl)
  (ht:eval (.Call (.Attribute (.Name x np) "__init__" apos) (e₀::es) [] pos) X.env=(do
   let ov <-eval (.Name x np) X.env
   standAt apos.atName
   let (g,first) <-holding [ov] (pO ov "__init__" pl)
   callWith pos g first (sL pos (uB (e₀::es) X.env)) (backToKw pos (pT [] X.env))):=by rfl) :
  PE X (.Call (.Attribute (.Name x np) "__init__" apos) (e₀::es) [] pos) (zX C t):=by
 intro pins s σ H Q I h;refine wC (pl:=pl) (Xz I hg hm ?_ oQ) ht;refine PySem.W.method_cls I.kIn S.sp (PySem.W.cls_value I.kIn S.rd S.fc rfl ?_);refine PyProof.Rows.callWith_builtin1 (thn (ha pos pins _ σ H _ (I.tok _) h) fun us s2 ⟨vs,H2,I2,r,e,v,d,ev,he,q2⟩=>?_) oK oJ;subst ev;obtain⟨u1,u2,rfl,r1,r2⟩:=TN r;obtain rfl:u1=uI e:=r1;obtain⟨⟨o,ws,h1,h2,h3,h4,h5,h6⟩,_⟩:=I2.hok e _ he;have z1:1<ws.size:=(xg.mp h5).1;have hz:ws[0]?=some ws[0]:=Array.getElem?_eq_getElem (by omega);refine D2 I2.kIn q h1 h2 h4 hz fun h' t0 mf hk=>⟨.non,H2,?_,rfl,q2⟩;have W:=I2.write (x:=e) (e:=e) (o:=exN e (.ref C) d) (t':=s2.toks) (h':=h') (by rw[he];exact tH) (.inl rfl) hk ⟨_,mf⟩ (Py ⟨_,_,mf,h2,h3,rfl,by rw[wO (by decide)];exact h5,by rw[wO (by decide)];exact h6⟩);rw[BW he]at W;exact W
theorem Ah {h':Heap}{tk:Nat}{u:uT}{y:V}(I:Inv X pins σ H s)(he:H e=some (exN e (.ref C) none))(ry:ZS y u)
  (n1:h'.Ns1 s.heap.objs.size (fun z=>if z=name then some u else none)) (h1:∃ o vs,h'.get? e=some o/\o.cls=.ref C/\o.dict=some s.heap.objs.size/\o.data=.fields vs/\vs[1]?=some .none/\vs[2]?=some .none) (hk:∀ b ob,b≠e->s.heap.get? b=some ob->h'.get? b=some ob) :
  Inv X pins σ (upd (upd H s.heap.objs.size (.xd [(name,y)])) e (exN e (.ref C) (some s.heap.objs.size))) { s with heap:=h',toks:=tk }:=by
 have fr:H s.heap.objs.size=none:=I.hok.fresh (yO _);have ne:s.heap.objs.size≠e:=fun z=>by rw[z,he]at fr;cases fr
 have nd:∀ b ob,s.heap.get? b=some ob->b≠s.heap.objs.size:=fun b ob q=>yv (yM q);have gM:∀ b,b≠e->b≠s.heap.objs.size->(upd (upd H s.heap.objs.size (.xd [(name,y)])) e (exN e (.ref C) (some s.heap.objs.size))) b=H b:=fun b z1 z2=>by rw[Z5 z1,Z5 z2]
 have nn:∀ b u,H b=some u->b≠s.heap.objs.size:=fun b u q z=>by rw[z,fr]at q;cases q
 have nx:∀ b u,H b=some u->u≠exN e (.ref C) none->b≠e:=fun b u q z1 z=>by rw[z,he]at q;exact z1 (uz.inj q).symm
 refine I.un ⟨fun b ob q n _ _=>hk b ob (fun z=>by rw[z,he]at n;cases n) q,fun b ob q n _ _=>⟨ob.slots,hk b ob (fun z=>by rw[z,he]at n;cases n) q⟩,fun b ob q n _=>?_,fun b ob q _=>?_,fun b xs q=>?_,fun b o v q=>?_,fun b ps q=>?_⟩ fun b v q=>?_;rw[gM b (fun z=>by rw[z,he]at n;cases n) (nd b ob q)];exact n;by_cases z:b=e;obtain⟨o,_,q1,_⟩:=h1;exact⟨o,by rw[z];exact q1⟩;exact⟨ob,hk b ob z q⟩;rw[gM b (nx b _ q (fun z=>by cases z)) (nn b _ q)];exact q;rw[gM b (nx b _ q (fun z=>by cases z)) (nn b _ q)];exact q;exact⟨#[],by rw[gM b (nx b _ q (fun z=>by cases z)) (nn b _ q),q];simp⟩;by_cases ze:b=e;subst ze;rw[Z0]at q;cases q;exact Py h1;by_cases zd:b=s.heap.objs.size;subst zd;rw[Z5 ze,Z0]at q;cases q;refine⟨_,n1,fun f=>?_⟩;show YO (xx f [(name,y)]) _;by_cases zf:f=name;have hb:(f==name)=true:=tf.mpr zf;simp only[xx,hb,uK zf];exact ry;have hb:(f==name)=false:=by simpa using zf
 simp only[xx,hb,uL zf];trivial;rw[gM b ze zd]at q;refine (I.hok b v q).stay (fun c ob hc r=>hk c ob (fun z=>?_) r) (fun c r=>?_) fun c xs r=>?_;rcases hc with hc|hc;exact ze (hc.symm.trans z);exact nx c _ hc (fun z=>by cases z) z;rw[gM c (nx c _ r (fun z=>by cases z)) (nn c _ r)];exact r;rw[gM c (nx c _ r (fun z=>by cases z)) (nn c _ r)];exact r
theorem DQ (N:Tv X.K C fI name)(ha:PE X o ta)(hv:PE X value tv)(hs:rW value (some (.Attribute o name pos')) pos.line X.env=pure false):PS X (.Assign [.Attribute o name pos'] value pos) (zU C ta tv name):=by
 intro pins s σ H D I h;refine plainObj_wpAny_Assign_Attribute (thn (hv pins s σ H _ I h) fun u s1 ⟨y,H1,I1,ry,q⟩=>thn (ha pins s1 σ H1 _ I1 q) fun ov s2 ⟨x,H2,I2,rx,e,ex,he,q2⟩=>?_) hs;subst ex;obtain rfl:ov=uI e:=rx;obtain⟨⟨o,ws,h1,h2,h3,h4,h5,h6⟩,_⟩:=I2.hok e _ he;have fr:H2 s2.heap.objs.size=none:=I2.hok.fresh (yO _);refine Dz I2.kIn N.ex h1 h2 h3 h4 N.sa N.mo N.na fun h' tk n1 mf hk=>⟨σ,_,Ah I2 he ry n1 ⟨_,_,mf,h2,rfl,h4,h5,h6⟩ hk,q2 _ fr fun z=>by rw[z,he]at fr;cases fr⟩
end
noncomputable def unt (H:Hp)(e:Addr):Hp:=fun b=>if b=e then none else H b
theorem Ub {b:Addr}(h:b≠e):unt H e b=H b:=by unfold unt;rw[uL h]
theorem SH :unt H e e=none:=by unfold unt;rw[uK rfl]
def Mc (X:Cx)(E:XK):Prop:=∀ (pins:List (Addr×Obj)) (σ:St) (H H2:Hp) (s s2:uS) (h1:Heap) (e:Addr) (C:uT) (d:Option Addr) (args:List uT),Inv X pins σ H s->vP s.heap h1 e C args->Un (frs X.stack) [] (upd H e (exN e C none)) H2 h1 s2.heap->
 HOk X.prog X.w H2 s2.heap->Inv X pins σ H2 s2->H2 e=some (exN e C d)->s2.os=s.os->qX s2.gens->E C d (unt H2 e)->X.xe (.ref e) s2
theorem zJ {H2:Hp}{s2:uS}{h1:Heap}{d:Option Addr}{args:List uT}(I:Inv X pins σ H s)(m:vP s.heap h1 e C args)(u:Un (frs X.stack) [] (upd H e (exN e C none)) H2 h1 s2.heap)
  (hok:HOk X.prog X.w H2 s2.heap) (I2:Inv X pins σ H2 s2) (he:H2 e=some (exN e C d)):∃ B,Air B X.stack e s2.heap/\VR B e C d s2.heap/\HOk X.prog X.w (unt H2 e) B/\UnB (frs X.stack) H (unt H2 e) s.heap B s2.heap:=by
 have hn:H e=none:=by
  cases q:H e with
  | none=>rfl
  | some o=>
   obtain⟨ob,z⟩:=(I.hok e o q).obj;rw[m.new]at z;cases z
 have old:∀ b ob,s.heap.get? b=some ob->b≠e:=fun b ob q z=>by rw[z,m.new]at q;cases q
 have lZ:∀ b v,H b=some v->b≠e:=fun b v q z=>by rw[z,hn]at q;cases q
 have up:∀ b,b≠e->(upd H e (exN e C none)) b=H b:=fun b z=>Z5 z;have mJ:∀ b v,H2 b=some v->v≠exN e C d->unt H2 e b=some v:=fun b v q z=>by
  rw[Ub (fun w=>by rw[w,he]at q;exact z (uz.inj q).symm)];exact q
 have hok2:HOk X.prog X.w (unt H2 e) s2.heap:=fun b v q=>by
  have nb:b≠e:=fun z=>by rw[z,SH]at q;cases q
  rw[Ub nb]at q;exact (hok b v q).stay (fun _ _ _ r=>r) (fun c r=>mJ c _ r (fun z=>by cases z)) fun c xs r=>mJ c _ r (fun z=>by cases z)
 refine⟨xA s2.heap (e::frs X.stack),⟨fun b o q=>xc _ q,vF _ (.head _),PySem.W.funFrames_hide I2.stack fun env hv a ha=>.tail _ (wc.mpr ⟨env,hv,ha⟩)⟩,?_,Qo hok2 (fun b hb=>?_),?_⟩;obtain⟨⟨o,vs,q1,q2,q3,q4,q5,q6⟩,_⟩:=hok e _ he;exact⟨o,vs,q1,q2,q3,q4,q6,.inl q5⟩;rcases yl.mp hb with z|z;rw[z];exact SH;by_cases w:b=e;rw[w];exact SH;rw[Ub w];exact I2.stkFree b z;have nm:∀ b ob,s.heap.get? b=some ob->b∉frs X.stack->b∉e::frs X.stack:=fun b ob q hb z=>(yl.mp z).elim (old b ob q) hb;refine⟨fun b o q n hb=>?_,fun b o q n hb=>?_,fun b o q n=>?_,fun b o q hb=>?_,fun b xs q=>?_,fun b o v q=>?_,fun b ps q=>?_⟩;exact xF _ (u.keep b o (m.keeps _ _ q) (by rw[up b (old b o q)];exact n) hb (by simp)) (nm b o q hb);exact u.slot b o (m.keeps _ _ q) (by rw[up b (old b o q)];exact n) hb (by simp);rw[Ub (old b o q)];exact u.free b o (m.keeps _ _ q) (by rw[up b (old b o q)];exact n) (by simp);obtain⟨o',z⟩:=u.there b o (m.keeps _ _ q) (by simp);exact⟨o',xF _ z (nm b o q hb)⟩;exact mJ b _ (u.tups b xs (by rw[up b (lZ b _ q)];exact q)) (fun z=>by cases z);exact mJ b _ (u.frzs b o v (by rw[up b (lZ b _ q)];exact q)) (fun z=>by cases z);obtain⟨more,z⟩:=u.tbls b ps (by rw[up b (lZ b _ q)];exact q);exact⟨more,mJ b _ z (fun z=>by cases z)⟩
variable{mg:Str->Option uT}{base:Heap}{N:List Str}{qual:Str}{cd:uT}{outer:List Env}
theorem D0 {E:XK}:Mc (Zb (CX1 P w) P w K mg base N qual scope f cd A outer s H E) E:=by
 intro pins σ Hc H2 sc s2 h1 e C d args I m u hok I2 he hos hb hq;obtain⟨B,a,x,hok',u'⟩:=zJ I m u hok I2 he;refine SZ (s:=s2) (B:=B) (L:=s.heap.objs.size) I.ok.frames rfl a x fun h2 a2 x2 up=>?_;exact⟨e,C,d,_,Z,⟨hos.trans I.os,hb,B,a2,x2,hok',UnB.after I Z Z Z a u' up⟩,hq⟩
def PV (C:Addr)(name:Str)(ok:V->Prop):Sp:=fun vs H Q _=>∃ e v,vs=[.ref e,v]/\ok v/\H e=some (exN e (.ref C) none)/\∀ dx,H dx=none->dx≠e->Q .non (upd (upd H dx (.xd [(name,v)])) e (exN e (.ref C) (some dx)))
def Ek (t:TA)(C:Addr)(name:Str)(ok:V->Prop)(E:XK):TS:=fun _ σ H=>t σ H fun vs H1=>∃ v,vs=[v]/\ok v/\∀ dx H2,H1 dx=none->H2=upd H1 dx (.xd [(name,v)])->E (.ref C) (some dx) H2
section
variable {C fI:Addr}{x p1 p2:Str}{rest:List Expr}{t:TA}{E:XK}{np pB:Pos}{fd:uC}{ok:V->Prop}
theorem Gg (hc:X.calm=true)(N:Tv X.K C fI name)(hg:Gl X x)(hm:X.mg x=some (.ref C))(F:Z6 X.prog X.w X.K X.mg X.base CX0 k fI fd [p1,p2] (PV C name ok))(hb:Zn X.K fd [p1,p2] [])(hr:ZK (k+1) X.A)(ht:Mc X E)(ha:PA X (e₀::rest) t)
  (oQ:(x==("__debug__":Str))=false:=by decide) (he:uB (e₀::rest) X.env=(false,eval e₀ X.env)::uB rest X.env:=by rfl) (oJ:(sL pB (uB rest X.env)).any (·.1)=false:=by rfl) :
  PS X (.Raise (some (.Call (.Name x np) (e₀::rest) [] pB)) none pos) (Ek t C name ok E):=by
 intro pins s σ H D I h;rw[arm_exec_Raise];refine uV (qL (Hr (C:=C) (I.ok.hd hc) (uV (uA (sU (Xz I hg hm ?_ oQ)) (fun v s3 h3=>uV (qL (uQ h3))) fun _ _ z=>z))));refine w4 (h₀:=X.base) I.ok.mod.kin N.kp (thn (ha pB pins s σ H _ I h) fun us s1 ⟨vs,H1,I1,r,v,ev,hok0,q⟩=>⟨I1.kIn,?_⟩) he oJ;subst ev;obtain⟨u,rfl,ru⟩:=YX r;obtain⟨bm,N',nm,qn,bs,sn,sub,ab,col,dd,k0,k1,k2,k3,k5,mN,oC,nN,ni,TL⟩:=Sm N.ex I1.kIn;obtain⟨fo,hfo,hfc⟩:∃ fo,s1.heap.get? fI=some fo/\fo.cls=.type "function":=by
  have z:=N.fn;unfold wY at z;dsimp only at z;obtain⟨fo,z1,z2⟩:=sJ.mp z;exact⟨fo,I1.kIn _ _ z1,z2⟩
 refine Fz oC nN ni TL hfo hfc (by simp[rg]) fun h1 e m=>?_;have hn:H1 e=none:=by
  cases z:H1 e with
  | none=>rfl
  | some o=>
   obtain⟨ob,w⟩:=(I1.hok e o z).obj;rw[m.new]at w;cases w
 have old:∀ b ob,s1.heap.get? b=some ob->b≠e:=fun b ob q z=>by rw[z,m.new]at q;cases q
 have lZ:∀ b v,H1 b=some v->b≠e:=fun b v q z=>by rw[z,hn]at q;cases q
 have I2:Inv X pins σ (upd H1 e (exN e (.ref C) none)) { s1 with heap:=h1 }:=by
  refine I1.un (t':=s1.toks) ⟨fun b ob q _ _ _=>m.keeps _ _ q,fun b ob q _ _ _=>⟨ob.slots,m.keeps _ _ q⟩,fun b ob q n _=>by rw[Z5 (old b ob q)];exact n,fun b ob q _=>⟨ob,m.keeps _ _ q⟩,fun b xs q=>by rw[Z5 (lZ b _ q)];exact q,fun b o v q=>by rw[Z5 (lZ b _ q)];exact q,fun b ps q=>⟨#[],by rw[Z5 (lZ b _ q),q];simp⟩⟩ fun b w q=>?_;by_cases ze:b=e;subst ze;rw[Z0]at q;cases q;obtain⟨t0,z,_,_⟩:=m.there;exact Py ⟨_,_,z,rfl,rfl,rfl,rfl,rfl⟩;rw[Z5 ze]at q;exact (I1.hok b w q).stay (fun c ob _ r=>m.keeps _ _ r) (fun c r=>by rw[Z5 (lZ c _ r)];exact r) fun c xs r=>by rw[Z5 (lZ c _ r)];exact r
 refine rN (rT (F.run _ X.stack _ _ ⟨[.ref e,u],[]⟩ [.ref e,u] [.ref e,v] (fun w H2=>w=.non/\∃ dx,H1 dx=none/\dx≠e/\H2=upd (upd (upd H1 e (exN e (.ref C) none)) dx (.xd [(name,v)])) e (exN e (.ref C) (some dx))) E0 (hr.make C [u] []) (I2.env0.make C [u] []) (hb _ [.ref e,u] I2.kIn rfl) (.cons rfl (.cons ru .nil))
  ⟨e,v,rfl,hok0,Z0,fun dx jX nd=>⟨rfl,dx,by rw[Z5 nd]at jX;exact jX,nd,rfl⟩⟩) fun r s' hq=>?_)
 cases r with
 | error e=>exact uj hq
 | ok fl=>
  cases fl with
  | next=>exact uj hq
  | brk=>exact uj hq
  | cont=>exact uj hq
  | ret uu=>
   obtain⟨vv,H2,hos,hbare,un,hok,rv,rfl,dx,jX,nd,hH2⟩:=hq;have euu:uu=.none:=rv;subst euu;have I3:Inv X pins σ H2 s':=I2.call' (ch:=[]) hos un hok hbare (fun b z=>absurd z (by simp));have gk:H2 e=some (exN e (.ref C) (some dx)):=(by rw[hH2,Z0]);obtain⟨bm',N2,nm',qn',bs',sn',sub',ab',col',nY,l0,l1,l2,l3,l5,mN',oC',_,_,TL'⟩:=Sm N.ex I3.kIn;obtain⟨⟨o,ws,q1,q2,q3,q4,q5,q6⟩,_⟩:=hok e _ gk;refine⟨Z,e,o,bm',N2,nm',qn',bs',sn',sub',ab',col',nY,l0,l1,l2,l3,l5,Z,oC',TL',q1,q2,⟨ws,q4,q5⟩,?_⟩;refine ht pins σ H1 H2 s1 s' h1 e (.ref C) (some dx) [u] I1 m un hok I3 gk hos hbare (q dx _ jX ?_);funext b;rw[hH2];by_cases zb:b=e;rw[zb,SH,Z5 (uc nd),hn];rw[Ub zb,Z5 zb];by_cases zd:b=dx;rw[zd,Z0,Z0];rw[Z5 zd,Z5 zb,Z5 zd]
end
def XAt (H:Hp)(e D:Addr)(d:Option Addr):Prop:=H e=some (exO e (.ref D) d)/\∀ dx,d=some dx->∃ fs,H dx=some (.xd fs)
def J6 (K:yS)(ta:TE)(f:Str):TE:=fun σ H Q=>ta σ H fun x H1=>∃ e D dx fs v,x=.ref e/\H1 e=some (exO e (.ref D) (some dx))/\H1 dx=some (.xd fs)/\WX K D/\xE K D=true/\YG K D f/\fs.lookup f=some v/\Q v H1
section
variable {f:Str}{ta:TE}
theorem Dp (he:PE X e₀ ta)(hb:qM e₀ f X.env (eval e₀ X.env)=eval e₀ X.env):PE X (.Attribute e₀ f pos) (J6 X.K ta f):=by
 intro pins s σ H Q I h;refine LQ hb (thn (he pins s σ H _ I h) fun u s1 ⟨x,H1,I1,rx,e,D,dx,fs,v,ex,ee,ed,c,hd,n,l,q⟩=>?_);subst ex;obtain rfl:u=uI e:=rx;obtain⟨⟨o,vs,h1,h2,h3,h4,_⟩,_⟩:=I1.hok e _ ee;obtain⟨mA,nA,rA⟩:=(show ZC X.prog X.w H1 s1.heap dx (.xd fs) from I1.hok dx _ ed);obtain⟨od,ho,hl⟩:=NP nA;obtain⟨w',hw,pH⟩:=YO.some_of (v:=v) (o:=mA f) (by rw[<-l];exact rA f);have J:xu s1.heap e o D (some od):=⟨h1,h2,by unfold wq;rw[h4],by rw[h3];exact ho⟩;refine uV (wpAny_mkText (Ku (s:={ s1 with toks:=s1.toks+1 }) I1.kIn c J (PySem.W.findObj_own hd n rfl (by rw[hl,hw])) ⟨NN pH,v,H1,I1.tok _,pH,q⟩))
def DT (K:yS):List V->Hp->VK->Prop:=fun xs H Q=>∃ e c D d t b,xs=[.ref e,c]/\clsV c=some t/\XAt H e D d/\WX K D/\yp K (.ref D) t=some b/\Q (.bl b) H
theorem Xo:Y7 X (.builtin "isinstance") (DT X.K):=by
 intro pins s σ H xs us Q I r h;obtain⟨e,c,D,d,t,b,rfl,hc,⟨he,hd⟩,hx,hk,q⟩:=h;obtain⟨u,w',rfl,ru,pH⟩:=TN r;cases ru;have ew:w'=t:=by
  cases c with
  | ty n=>cases hc;exact pH
  | ref a=>cases hc;exact pH
  | _=>cases hc
 subst ew;obtain⟨⟨o,vs,h1,h2,h3,h4,_⟩,_⟩:=I.hok e _ he;have ii:∃ od,xu s.heap e o D od:=by
  cases d with
  | none=>exact⟨none,h1,h2,by unfold wq;rw[h4],by rw[h3];trivial⟩
  | some dx=>
   obtain⟨fs,hf⟩:=hd dx rfl;obtain⟨ob,z⟩:=(I.hok dx _ hf).obj;exact⟨some ob,h1,h2,by unfold wq;rw[h4],by rw[h3];exact z⟩
 obtain⟨od,ii⟩:=ii;exact xK (MJ hx) I.kIn ⟨_,_,ii⟩ hk (fun z=>nomatch z) fun tk=>⟨.bl b,H,I.tok tk,rfl,q⟩
end
end L2
namespace L2
open PySem PySem.Spec PyProof.Rows PySem.W
variable (key:Nat->Nat)
variable {lt:Nat->Nat->Bool}{n:Nat}
theorem MO {vs:List uT}{ns:List Int}(h:tE vs ns)(i:Nat):(vs[i]?=none/\ns[i]?=none)\/∃ a t,vs[i]?=some (.int a t)/\ns[i]?=some a:=by
 induction h generalizing i with
 | nil=>exact .inl ⟨by simp,by simp⟩
 | cons a t _ ih=>
  cases i with
  | zero=>exact .inr ⟨a,t,by simp,by simp⟩
  | succ i=>simpa using ih i
theorem Lk {α:Type}{l:List α}{i:Nat}{a:α}(h:l[i]?=some a):l.drop i=a::l.drop (i+1):=by
 obtain⟨hi,e⟩:=yP.mp h;rw[wW hi,e]
section
variable {X:Cx}
theorem Ny:∀ {as:List Addr} {us:List uT},ZX (as.map V.ref) us->us=as.map uI
 | [],_,h=>by cases h;rfl
 | a::as,_,h=>by
  cases h with
  | cons r t=>
   cases (show _=uI a from r);rw[Ny t];rfl
end
def XI (op:CmpOp)(A:uq)(s:uS)(y x:uT)(b:Bool):Prop:=
 ∀ (prog:uE) (w:uw) (E:uT->uS->Prop) (Q:uT->uS->Prop),Q (.bool b) s->uP (uM prog w) A (richCompare op y x) Q E s
theorem HZ (l b:Addr)(xs ys:Array uT)(n n2:Nat)(dd dW:Option Addr)(sl kh:Array (Option uT))(k:Nat)(c:Bool) :
  Meets (sG.«tuple.__lt__» ⟨[.ref l,.ref b],[]⟩)
   (fun A R s=>s.heap.get? l=some { cls:=.type "tuple",dict:=dd,data:=.seq xs n,slots:=sl }/\s.heap.get? b=some { cls:=.type "tuple",dict:=dW,data:=.seq ys n2,slots:=kh }/\
    xs.size=ys.size/\k<=xs.size/\(∀ j (h1:j<xs.size) (h2:j<ys.size),j<k->rB A.in1 s xs[j] ys[j] true)/\
    (∀ (h1:k<xs.size) (h2:k<ys.size),rB A.in1 s xs[k] ys[k] false/\XI .Lt A.in1 s xs[k] ys[k] c)/\(k=xs.size->c=false)/\
    R (.ok (.ret (.bool c))) s):=
 .of_wp fun prog w A R s h=>by
  obtain⟨hp,g,d,tk,os⟩:=s;obtain⟨hl,hb,hsz,hle,he,hk,hc,hR⟩:=h;have f2:=AutoSeq1.sub_tuple_tuple;have hZ:(xs.toList.zip ys.toList).length=xs.size:=by simp;lia
  wp_walk using rP hl,rP hb,qP _ (fun rest b s'=>b.1=none/\s'=⟨hp,g,d,tk,os⟩/\∃ i,i<=k/\rest=(xs.toList.zip ys.toList).drop i) _
  case turn=>
   rintro ⟨y,x⟩ rest b s' ⟨lA,rfl,i,hik,hz⟩;have pJ:i<(xs.toList.zip ys.toList).length:=by
    rcases yb i (xs.toList.zip ys.toList).length with h'|h';exact h';rw[List.drop_of_length_le h']at hz;cases hz
   have h1:i<xs.size:=(by lia);have h2:i<ys.size:=(by lia);rw[wW pJ]at hz;injection hz with hyx cE
   have hy:y=xs[i]:=by have:=tX Prod.fst hyx;simpa using this
   have hx:x=ys[i]:=by have:=tX Prod.snd hyx;simpa using this
   subst hy hx;rcases yb i k with hlk|jZ;refine uV (he i h1 h2 hlk prog w _ _ ?_)
   wp_walk
   exact⟨Z,Z,i+1,hlk,cE⟩;have e:i=k:=(by lia);subst e;obtain⟨q1,q2⟩:=hk h1 h2;refine uV (q1 prog w _ _ ?_);rw[uK (show (!false)=true from rfl)];dsimp only;refine uV (rm ?_);refine uV (q2 prog w _ _ ?_);refine uV (uQ ?_);refine uQ ?_;exact uQ ⟨_,rfl,hR⟩
  case fin=>
   rintro ⟨b1,b2⟩ s' ⟨lA,rfl,i,hik,hz⟩;simp only at lA;subst lA;have jZ:xs.size<=i:=by
    rcases yb i (xs.toList.zip ys.toList).length with h'|h';rw[wW h']at hz;cases hz;exact hZ ▸ h'
   have ec:=hc (by lia);subst ec
   wp_walk
   exact⟨_,Z,by simpa [Builtin.Tuple.tupleCompareSizes,hsz] using hR⟩
  case h=>
   exact⟨Z,Z,0,xY _,Z⟩
theorem Iv (A:uq)(s:uS)(a b:Int)(t u:Tok):XI .Lt A s (.int a t) (.int b u) (decide (a<b)):=fun prog w E Q h=>
 richCompare_gives (op:=.Lt) (typeIs_int s _ t) (typeIs_int s _ u) PySem.F.slot_int_lt PySem.F.entry_int_lt (PySem.F.args_int_lt_2 _ _) (gives_int_lt _ _ t u) (fun x=>nomatch x) h
theorem QU {h:Heap}:∀ {vs:List uT} {xs:List rK} {as:List Addr},ReadsAll h vs xs as->vs.length=xs.length
 | _,_,_,.nil=>rfl
 | _,_,_,.cons _ t=>by rw[yi,yi,QU t]
theorem UT {h:Heap}:∀ {vs:List uT} {xs:List rK} {as:List Addr},ReadsAll h vs xs as->∀ (j:Nat) (h1:j<vs.length),∃ x bs,xs[j]?=some x/\sN h vs[j] x bs
 | _,_,_,.nil,j,h1=>absurd h1 (xM _)
 | _,_,_,.cons r t,0,h1=>⟨_,_,rfl,r⟩
 | _,_,_,.cons r t,j+1,h1=>by
  obtain⟨x,bs,e,q⟩:=UT t j (Nat.lt_of_succ_lt_succ h1);exact⟨x,bs,by simpa using e,by simpa using q⟩
noncomputable def ZE (e:Bool):List Nat->List Nat->Bool
 | a::r,b::q=>if a=b then ZE e r q else decide (a<b)
 | _,_=>e
theorem Nj (e:Bool):∀ r q:List Nat,r.length=q.length->∃ k,k<=r.length/\(∀ j,j<k->r[j]?=q[j]?)/\(∀ a b,r[k]?=some a->q[k]?=some b->a≠b/\ZE e r q=decide (a<b))/\(k=r.length->ZE e r q=e)
 | [],[],_=>⟨0,yO _,fun j h=>absurd h (xM _),fun a b h=>by simp at h,fun _=>rfl⟩
 | [],_::_,h=>by simp at h
 | _::_,[],h=>by simp at h
 | a::r,b::q,h=>by
  by_cases c:a=b
  ·obtain⟨k,h1,h2,h3,h4⟩:=Nj e r q (by simpa using h);have el:ZE e (a::r) (b::q)=ZE e r q:=uK c;refine⟨k+1,by simpa using h1,fun j hj=>?_,fun x y hx hy=>?_,fun hk=>?_⟩
   ·cases j with
    | zero=>simp[c]
    | succ j=>simpa using h2 j (by lia)
   rw[el];exact h3 x y (by simpa using hx) (by simpa using hy);rw[el];exact h4 (by simpa using hk)
  have el:ZE e (a::r) (b::q)=decide (a<b):=uL c;refine⟨0,xY _,fun j hj=>absurd hj (xM _),fun x y hx hy=>?_,fun hk=>by simp at hk⟩;cases hx;cases hy;exact⟨c,el⟩
theorem WN (e:Bool):∀ {r q u v:List Nat},r.length=q.length->ZE e (r++u) (q++v)=if r=q then ZE e u v else ZE e r q
 | [],[],_,_,_=>(uK rfl).symm
 | [],_::_,_,_,h=>by simp at h
 | _::_,[],_,_,h=>by simp at h
 | a::r,b::q,u,v,h=>by
  by_cases c:a=b;have e1:ZE e (a::r++u) (b::q++v)=ZE e (r++u) (q++v):=uK c;have e2:ZE e (a::r) (b::q)=ZE e r q:=uK c;rw[e1,e2,WN e (by simpa using h)];by_cases d:r=q;rw[uK d,uK (by rw[c,d])];rw[uL d,uL (fun w=>d (qd.inj w).2)];have e1:ZE e (a::r++u) (b::q++v)=decide (a<b):=uL c;have e2:ZE e (a::r) (b::q)=decide (a<b):=uL c;rw[e1,e2,uL (fun w=>c (qd.inj w).1)]
theorem Wm (e:Bool):∀ r:List Nat,ZE e r r=e
 | []=>rfl
 | a::r=>(uK rfl).trans (Wm e r)
theorem UK:∀ r:List Nat,tY (nd r)<=1
 | []=>xY _
 | a::r=>by
  show max (PyData.depth (.int _)) (tY (nd r))<=1;exact Nat.max_le.mpr ⟨by simp[PyData.depth],UK r⟩
theorem Ln (r:List Nat):(PyData.tuple (nd r)).depth<=10:=by
 show tY (nd r)+1<=10;have:=UK r;lia
variable{A:uq}{s:uS}{a b:uT}{as bs:List Addr}
theorem Tc {xs ys:List rK}(k:Nat)(c:Bool)(ra:sN s.heap a (.tuple xs) as)(rb:sN s.heap b (.tuple ys) bs)(len:xs.length=ys.length)(hk:k<=xs.length)(hu:A.units<tO)
  (he:∀ j x y v w as bs,j<k->xs[j]?=some x->ys[j]?=some y->sN s.heap v x as->sN s.heap w y bs->rB A.in1 s v w true)
  (hd:∀ x y v w as bs,xs[k]?=some x->ys[k]?=some y->sN s.heap v x as->sN s.heap w y bs->rB A.in1 s v w false/\XI .Lt A.in1 s v w c)
  (hc:k=xs.length->c=false):XI .Lt A s a b c:=by
 intro prog w E Q h;cases ra with
 | tuple h1 h2 h3 h4=>
  cases rb with
  | tuple k1 k2 k3 k4=>
   rename_i l o vs n l' o' ws n';obtain⟨cls,dd,data,sl⟩:=o;obtain⟨cls',nY,data',c9⟩:=o';simp only at h2 h3 k2 k3;subst h2 h3 k2 k3;have e1:=QU h4;have e2:=QU k4;have e1':vs.size=xs.length:=(by rw[<-e1];simp);have e2':ws.size=ys.length:=(by rw[<-e2];simp);refine richCompare_meets_room (op:=.Lt) ⟨_,h1,rfl⟩ ⟨_,k1,rfl⟩ PySem.F.slot_tuple_lt PySem.F.entry_tuple_lt (PySem.F.args_tuple_lt_2 _ _) (HZ l l' vs ws n n' dd nY sl c9 k c) ⟨h1,k1,by lia,by lia,fun j j1 j2 hj=>?_,fun j1 j2=>?_,fun e=>hc (by lia),show tj c≠Value.notImplemented/\Q (.bool c) s from ⟨(fun x=>nomatch x),h⟩⟩ hu;obtain⟨x,xa,ex,rx⟩:=UT h4 j (by simpa using j1);obtain⟨y,ya,ey,ry⟩:=UT k4 j (by simpa using j2);exact he j x y _ _ _ _ hj ex ey (by simpa using rx) (by simpa using ry);obtain⟨x,xa,ex,rx⟩:=UT h4 k (by simpa using j1);obtain⟨y,ya,ey,ry⟩:=UT k4 k (by simpa using j2);exact hd x y _ _ _ _ ex ey (by simpa using rx) (by simpa using ry)
theorem Nl {r q:List Nat}(ra:sN s.heap a (.tuple (nd r)) as)(rb:sN s.heap b (.tuple (nd q)) bs)(len:r.length=q.length)(hu:A.units<tO):XI .Lt A s a b (ZE false r q):=by
 obtain⟨k,hk,heq,pC,ph⟩:=Nj false r q len;refine Tc k _ ra rb (by simp[nd,len]) (by simpa [nd] using hk) hu (fun j x y v w as bs hj hx hy rx ry=>?_) (fun x y v w as bs hx hy rx ry=>?_) (fun e=>ph (by simpa [nd] using e))
 ·have:=heq j hj;simp only[nd,yw]at hx hy;rw[this]at hx;rw[hx]at hy;cases hy;obtain⟨m,_,rfl⟩:=sJ.mp hx;cases rx with
  | int _ t=>
   cases ry with
   | int _ t'=>
    have:=qG (A:=A.in1) (s:=s) (m:Int) t (m:Int) t';simpa using this
 ·simp only[nd,yw]at hx hy;obtain⟨m,hm,rfl⟩:=sJ.mp hx;obtain⟨m',j3,rfl⟩:=sJ.mp hy;obtain⟨q1,q2⟩:=pC m m' hm j3;cases rx with
  | int _ t=>
   cases ry with
   | int _ t'=>
    refine⟨?_,?_⟩;have:=qG (A:=A.in1) (s:=s) (m:Int) t (m':Int) t';have e:((m:Int)==(m':Int))=false:=by simpa using fun h:(m:Int)=m'=>q1 (by lia)
    rwa [e]at this;have:=Iv A.in1 s m m' t t';have e:decide ((m:Int)<(m':Int))=ZE false r q:=(by rw[q2];exact sI.mpr ⟨fun h=>by lia,fun h=>by lia⟩);rwa [e]at this
theorem N6 {x y x' y':rK}(c:Bool)(ra:sN s.heap a (.tuple [x,y]) as)(rb:sN s.heap b (.tuple [x',y']) bs)(hu:A.units+20<tO)
  (l1:x.canLay0=true) (l2:y.canLay0=true) (l1':x'.canLay0=true) (l2':y'.canLay0=true) (d1:x.depth<=10) (d2:y.depth<=10)
  (c1:sZ x x'=false->∀ v w as bs,sN s.heap v x as->sN s.heap w x' bs->XI .Lt A.in1 s v w c)
  (c2:sZ x x'=true->sZ y y'=false->∀ v w as bs,sN s.heap v y as->sN s.heap w y' bs->XI .Lt A.in1 s v w c)
  (c3:sZ x x'=true->sZ y y'=true->c=false):XI .Lt A s a b c:=by
 have ux:∀ v w as bs,sN s.heap v x as->sN s.heap w x' bs->rB A.in1 s v w (sZ x x'):=fun v w as bs r1 r2=>SeqAt.eqAt_reads x x' A.in1 s v w as bs r1 r2 l1 l1' (by show A.units+1+min x.depth x'.depth<tO;lia);have uy:∀ v w as bs,sN s.heap v y as->sN s.heap w y' bs->rB A.in1 s v w (sZ y y'):=fun v w as bs r1 r2=>SeqAt.eqAt_reads y y' A.in1 s v w as bs r1 r2 l2 l2' (by show A.units+1+min y.depth y'.depth<tO;lia);cases e1:sZ x x' with
 | false=>
  rw[e1]at ux;refine Tc 0 c ra rb rfl (by simp) (by lia) (fun j _ _ _ _ _ _ hj=>absurd hj (xM _)) (fun p q v w as bs hp hq rp rq=>?_) (fun e=>by simp at e);cases hp;cases hq;exact⟨ux _ _ _ _ rp rq,c1 e1 _ _ _ _ rp rq⟩
 | true=>
  rw[e1]at ux;cases e2:sZ y y' with
  | false=>
   rw[e2]at uy;refine Tc 1 c ra rb rfl (by simp) (by lia) (fun j p q v w as bs hj hp hq rp rq=>?_) (fun p q v w as bs hp hq rp rq=>?_) (fun e=>by simp at e);have:j=0:=(by lia);subst this;cases hp;cases hq;exact ux _ _ _ _ rp rq;cases hp;cases hq;exact⟨uy _ _ _ _ rp rq,c2 e1 e2 _ _ _ _ rp rq⟩
  | true=>
   rw[e2]at uy;refine Tc 2 c ra rb rfl (by simp) (by lia) (fun j p q v w as bs hj hp hq rp rq=>?_) (fun p q v w as bs hp hq rp rq=>by simp at hp) (fun e=>c3 e1 e2);have:j=0\/j=1:=(by lia);rcases this with rfl|rfl;cases hp;cases hq;exact ux _ _ _ _ rp rq;cases hp;cases hq;exact uy _ _ _ _ rp rq
theorem Gm {r u r' u':List Nat}(ra:sN s.heap a (sd r u) as)(rb:sN s.heap b (sd r' u') bs)(len:r.length=r'.length)(UW:u.length=u'.length)(hu:A.units+20<tO):XI .Lt A s a b (ZE false (r++u) (r'++u')):=by
 have eq1:sZ (.tuple (nd r)) (.tuple (nd r'))=decide (r=r'):=Ve r r';have eq2:sZ (.tuple (nd u)) (.tuple (nd u'))=decide (u=u'):=Ve u u';refine N6 _ ra rb hu (Xh r) (Xh u) (Xh r') (Xh u') (Ln r) (Ln u) (fun h v w as bs r1 r2=>?_) (fun h h2 v w as bs r1 r2=>?_) (fun h h2=>?_);have:=Nl (A:=A.in1) r1 r2 len (by show A.units+1<tO;lia);rw[eq1,rF]at h;rwa [WN false len,uL h];have:=Nl (A:=A.in1) r1 r2 UW (by show A.units+1<tO;lia);rw[eq1,uH]at h;rwa [WN false len,uK h];rw[eq1,uH]at h;rw[eq2,uH]at h2;rw[WN false len,uK h,h2,Wm]
theorem EY (l b:Addr)(items pA:Array uT)(n n2:Nat)(dd dW:Option Addr)(sl kh:Array (Option uT))(ns ms:List Int)(hi:tE items.toList ns)(hj:tE pA.toList ms):∀ (k i:Nat),i+k=items.size->
  Meets (sG.«list.__eq__.loop» ⟨[.ref l,.ref b,sW (i:Nat),sW 0],[]⟩) (fun A R s=>s.heap.get? l=some { cls:=.type "list",dict:=dd,data:=.seq items n,slots:=sl }/\s.heap.get? b=some { cls:=.type "list",dict:=dW,data:=.seq pA n2,slots:=kh }/\
   R (.ok (.ret (.bool (HT.lexLt (ns.drop i) (ms.drop i))))) s):=by
 intro k
 induction k with
 | zero=>
  intro i hk prog w A R s ⟨hl,hb,hR⟩;unfold sG.«list.__eq__.loop»;dsimp only [sW];refine uV (sQ hl rfl (uV (sQ hb rfl ?_)));rw[yh];have e1:items[i]?=none:=Array.getElem?_eq_none (by omega);rw[e1];refine uV (sQ hl rfl (uV (sQ hb rfl ?_)));show uP _ _ (ret (tj (decide (items.size<pA.size)))) _ _ _;have en:ns.drop i=[]:=vT (by rw[<-hi.length];simp;omega);rw[en]at hR;have ez:HT.lexLt [] (ms.drop i)=decide (items.size<pA.size):=by
   have el:ms.length=pA.size:=(by rw[<-hj.length];simp);cases hd:ms.drop i with
   | nil=>
    have:=List.drop_eq_nil_iff.mp hd;rw[HT.lexLt_nil_nil,uJ (by omega)]
   | cons y ys=>
    have:¬ ms.length<=i:=fun z=>by rw[vT z]at hd;cases hd
    rw[HT.lexLt_nil_cons,uO (by omega)]
  rw[ez]at hR;exact uQ hR
 | succ k ih=>
  intro i hk prog w A R s ⟨hl,hb,hR⟩;unfold sG.«list.__eq__.loop»;dsimp only [sW];refine uV (sQ hl rfl (uV (sQ hb rfl ?_)));rw[yh];have g1:=MO hi i;have g2:=MO hj i;simp only[vN]at g1 g2;rcases g1 with ⟨g1,_⟩|⟨a,t,g1,g1'⟩;have:=vk.mp g1;omega
  ·rw[g1];rw[Lk g1']at hR;rcases g2 with ⟨g2,g2'⟩|⟨c,u,g2,g2'⟩;rw[g2];refine uV (sQ hl rfl (uV (sQ hb rfl ?_)));show uP _ _ (ret (tj (decide (items.size<pA.size)))) _ _ _;have h1:=vk.mp g2;rw[vT (wo.mp g2'),HT.lexLt_cons_nil]at hR;rw[uJ (by omega)];exact uQ hR
   ·rw[g2];rw[Lk g2',HT.lexLt_cons]at hR;obtain⟨e,he,hiff⟩:=HT.eqAt_int A.in1 s a t c u;refine uV (he prog w _ _ ?_);cases e with
    | true=>
     rw[uK (hiff.mp rfl)]at hR;rw[uK rfl];exact MeetsSeq.meets_again rfl qx MeetsSeq3.entry_eq_loop (ih (i+1) (by omega)) prog w A R s ⟨hl,hb,hR⟩
    | false=>
     rw[uL (fun q=>absurd (hiff.mpr q) yC)]at hR;rw[uL (by decide)];refine uV (sQ hl rfl (uV (sQ hb rfl ?_)));rw[g1,g2];dsimp only;refine uV (HT.rcLt_int A.in1 s a t c u prog w _ _ ?_);exact uQ hR
theorem Je (l b:Addr)(items pA:Array uT)(n n2:Nat)(dd dW:Option Addr)(sl kh:Array (Option uT))(ns ms:List Int)(hi:tE items.toList ns)(hj:tE pA.toList ms) :
  Meets (sG.«list.__lt__» ⟨[.ref l,.ref b],[]⟩) (fun A R s=>s.heap.get? l=some { cls:=.type "list",dict:=dd,data:=.seq items n,slots:=sl }/\s.heap.get? b=some { cls:=.type "list",dict:=dW,data:=.seq pA n2,slots:=kh }/\
   R (.ok (.ret (.bool (HT.lexLt ns ms)))) s):=by
 intro prog w A R s ⟨hl,hb,hR⟩;have f2:=AutoSeq1.sub_list_list;obtain⟨hp,g,d,tk,os⟩:=s
 wp_walk
 exact⟨qk qx _,sD MeetsSeq3.entry_eq_loop (by rw[qO qx];exact EY l b items pA n n2 dd dW sl kh ns ms hi hj items.size 0 (by omega) prog w A R _ ⟨hl,hb,hR⟩)⟩
theorem PZ:∀ {h:Heap} {f:List Nat} {vs:List uT} {as:List Addr},ReadsAll h vs (nd f) as->tE vs (f.map fun (x:Nat)=>(x:Int))
 | _,[],_,_,r=>by cases r;exact .nil
 | _,x::f,_,_,r=>by
  cases r with
  | cons r t=>cases r;exact .cons _ _ (PZ t)
theorem LN:∀ f g:List Nat,f.length=g.length->HT.lexLt (f.map fun (x:Nat)=>(x:Int)) (g.map fun (x:Nat)=>(x:Int))=ZE false f g
 | [],[],_=>rfl
 | [],_::_,h=>by simp at h
 | _::_,[],h=>by simp at h
 | a::f,b::g,h=>by
  rw[ye,ye,HT.lexLt_cons,LN f g (by simpa using h)];show _=if a=b then ZE false f g else decide (a<b)
  by_cases c:a=b;rw[uK c,uK (by omega)];rw[uL c,uL (by omega)];exact sI.mpr ⟨fun h=>by omega,fun h=>by omega⟩
theorem Gu {f g:List Nat}(ra:sN s.heap a (.list (nd f)) as)(rb:sN s.heap b (.list (nd g)) bs)(len:f.length=g.length)(hu:A.units<tO):XI .Lt A s a b (ZE false f g):=by
 intro prog w E Q h;cases ra with
 | list h1 h2 h3 h4=>
  cases rb with
  | list k1 k2 k3 k4=>
   rename_i l o vs n as l' o' ws n' bs;obtain⟨cls,dd,data,sl⟩:=o;obtain⟨cls',nY,data',c9⟩:=o';simp only at h2 h3 k2 k3;subst h2 h3 k2 k3;rw[<-LN f g len]at h;exact richCompare_meets_room (op:=.Lt) ⟨_,h1,rfl⟩ ⟨_,k1,rfl⟩ PySem.F.slot_list_lt PySem.F.entry_list_lt (PySem.F.args_list_lt_2 _ _) (Je l l' vs ws n n' dd nY sl c9 _ _ (PZ h4) (PZ k4)) ⟨h1,k1,show tj (HT.lexLt _ _)≠Value.notImplemented/\Q (.bool (HT.lexLt _ _)) s from ⟨(fun x=>nomatch x),h⟩⟩ hu
noncomputable def fd (r u f:List Nat):rK:=.tuple [sd r u,.list (nd f)]
theorem G8 {r u f r' u' f':List Nat}(ra:sN s.heap a (fd r u f) as)(rb:sN s.heap b (fd r' u' f') bs)(len:r.length=r'.length)(UW:u.length=u'.length)(len3:f.length=f'.length)(hu:A.units+30<tO) :
  XI .Lt A s a b (ZE false (r++u++f) (r'++u'++f')):=by
 have eq1:sZ (sd r u) (sd r' u')=decide (r++u=r'++u'):=by
  rw[PF,<-Bool.decide_and];exact sI.mpr ⟨fun ⟨h1,h2⟩=>by rw[h1,h2],fun h=>vo h len⟩
 have eq2:sZ (.list (nd f)) (.list (nd f'))=decide (f=f'):=Ve f f';have gH:(r++u).length=(r'++u').length:=by rw[yJ,yJ,len,UW]
 have ds:(sd r u).depth<=10:=by
  show tY [.tuple (nd r),.tuple (nd u)]+1<=10;show max (tY (nd r)+1) (max (tY (nd u)+1) _)+1<=10;have h1:=UK r;have h2:=UK u;have h3:tY []=0:=by simp[tY]
  rw[h3];omega
 have dl:(PyData.list (nd f)).depth<=10:=by
  show tY (nd f)+1<=10;have:=UK f;omega
 refine N6 _ ra rb (by omega) (Vh r u) (Xh f) (Vh r' u') (Xh f') ds dl (fun h v w as bs r1 r2=>?_) (fun h h2 v w as bs r1 r2=>?_) (fun h h2=>?_);have:=Gm (A:=A.in1) r1 r2 len UW (by show A.units+1+20<tO;omega);rw[eq1,rF]at h;rwa [WN false gH,uL h];have:=Gu (A:=A.in1) r1 r2 len3 (by show A.units+1<tO;omega);rw[eq1,uH]at h;rwa [WN false gH,uK h];rw[eq1,uH]at h;rw[eq2,uH]at h2;rw[WN false gH,uK h,h2,Wm]
def Ext (h0 h:Heap):Prop:=∀ b o,h0.get? b=some o->h.get? b=some o
def OR (prog:uE)(w:uw)(A:uq)(h0:Heap)(P:Nat->uT->Prop)(bt:Nat->Nat->Bool):Prop:=
 ∀ i j vi vj (s:uS) (Q E:uT->uS->Prop),Ext h0 s.heap->P i vi->P j vj->Q (.bool (bt i j)) s->uP (uM prog w) A (richCompare .Lt vi vj) Q E s
variable{prog:uE}{w:uw}
section
variable {R:Result->uS->Prop}{I:Addr}{fp wr:List Addr}{n:Nat}{P:Nat->uT->Prop}{St:Nat->Heap->Prop}{h0:Heap}
theorem Gy (W:Walks prog w A.in1 I fp wr n P St)(bt:Nat->Nat->Bool)(ask:OR prog w A.in1 h0 P bt)(S:Addr)(nS:S∉fp)(S0:h0.get? S=none)(w0:∀ b∈wr,h0.get? b=none) :
  ∀ (m j:Nat) (s:uS) (best:uT) (ep:Nat),n=j+1+m->St (j+1) s.heap->Ext h0 s.heap->P (tJ bt j) best->
  s.heap.get? S=some { cls:=.type "list",dict:=none,data:=.seq #[best,best] ep,slots:=#[] }->
  (∀ v h' tk,P (tJ bt (n-1)) v->Ext h0 h'->R (.ok (.ret v)) { s with heap:=h',toks:=tk })->
  rL (uM prog w) A (.builtin "min.loop" ⟨[.ref I,.none,.ref S],[]⟩) R s:=by
 have ah:S∉wr:=fun h=>nS (W.sub _ h);have pw:(toString "min"++toString ".loop":String)="min.loop":=by decide
 have ext:∀ {h h':Heap},Ext h0 h->(∀ b o,b∉wr->h.get? b=some o->h'.get? b=some o)->Ext h0 h':=fun e k b o g=>k b o (fun hb=>by rw[w0 b hb]at g;cases g) (e b o g);have bw:∀ {h:Heap} {f:Obj->Obj},Ext h0 h->Ext h0 (h.update S f):=fun e b o g=>(yj _ _ (fun q:S=b=>by rw[<-q,S0]at g;cases g)).trans (e b o g);intro m
 induction m with
 | zero=>
  intro j s best ep hn st ex pb gS fin;refine sD F.entry_min_loop ?_;rw[qO F.plain_min_loop _];refine uV (m:=rz (.ref S)) (ue gS rfl ?_);refine uV (m:=tryCatch (rD (.ref I)) _) (pU (W.done s _ _ (by rw[hn];exact st) fun h' tk keep=>?_));have iD:=keep S _ ah gS;refine uV (m:=updateSeq S (fun _=>#[])) (wpAny_updateSeq iD rfl (uV (qI (uQ ?_))));refine fin best _ tk ?_ (bw (ext ex keep));have e:n-1=j:=by omega
  rw[e];exact pb
 | succ m ih=>
  intro j s best ep hn st ex pb gS fin;refine sD F.entry_min_loop ?_;rw[qO F.plain_min_loop _];refine uV (m:=rz (.ref S)) (ue gS rfl ?_);refine uV (m:=tryCatch (rD (.ref I)) _) (pU (W.item (j+1) s _ _ (by omega) st fun v h' tk pv nZ keep=>?_));have iD:=keep S _ ah gS;have ex':=ext ex keep;show uP _ A.in1 (tryCatch (holding [v,v] (richCompare .Lt v best >>= _)) _ >>= _) _ _ _;refine uV (pU (sk (uV (ask (j+1) (tJ bt j) v best _ _ _ ex' pv pb ?_))));refine uV (sk (tU ?_));refine uV (qI (uQ ?_));cases hb:bt (j+1) (tJ bt j) with
  | true=>
   simp only[qz];refine uV (wpAny_updateSeq iD rfl (uV (qI ?_)));rw[pw];refine uQ ⟨qk F.plain_min_loop _,ih (j+1) _ v _ (by omega) (W.frame _ _ _ nZ fun b hbf o e=>?_) (bw ex') (by simp only[tJ,hb,qz];exact pv) (xW _ iD rfl) fun v' md km c7 jR=>fin v' md km c7 jR⟩;exact (yj _ _ (fun q:S=b=>nS (by rw[q];exact hbf))).trans e
  | false=>
   simp only[xH,q0];refine uV (qI ?_);rw[pw];exact uQ ⟨qk F.plain_min_loop _,ih (j+1) _ best ep (by omega) nZ ex' (by simp only[tJ,hb,xH,q0];exact pb) iD fun v' md km c7 jR=>fin v' md km c7 jR⟩
theorem HV (W:Walks prog w A.in1 I fp wr n P St)(bt:Nat->Nat->Bool)(ask:OR prog w A.in1 h0 P bt)(S:Addr)(nS:S∉fp)(S0:h0.get? S=none)(w0:∀ b∈wr,h0.get? b=none)(pos:0<n){ep:Nat}(st:St 0 s.heap)(ex:Ext h0 s.heap)
  (gS:s.heap.get? S=some { cls:=.type "list",dict:=none,data:=.seq #[] ep,slots:=#[] })
  (fin:∀ v h' tk,P (tJ bt (n-1)) v->Ext h0 h'->R (.ok (.ret v)) { s with heap:=h',toks:=tk }) :
  rL (uM prog w) A (.builtin "min.loop" ⟨[.ref I,.none,.ref S],[]⟩) R s:=by
 have ah:S∉wr:=fun h=>nS (W.sub _ h);have pw:(toString "min"++toString ".loop":String)="min.loop":=by decide
 refine sD F.entry_min_loop ?_;rw[qO F.plain_min_loop _];refine uV (m:=rz (.ref S)) (ue gS rfl ?_);refine uV (m:=tryCatch (rD (.ref I)) _) (pU (W.item 0 s _ _ pos st fun v h' tk pv nZ keep=>?_));have iD:=keep S _ ah gS;refine uV (m:=updateSeq S (fun _=>#[v,v])) (wpAny_updateSeq iD rfl ?_);rw[pw];refine uQ ⟨qk F.plain_min_loop _,Gy W bt ask S nS S0 w0 (n-1) 0 _ v _ (by omega) (W.frame _ _ _ nZ fun b hbf o e=>?_) (fun b o g=>?_) pv (xW _ iD rfl) fun v' md km c7 jR=>fin v' md km c7 jR⟩;exact (yj _ _ (fun q:S=b=>nS (by rw[q];exact hbf))).trans e;exact (yj _ _ (fun q:S=b=>by rw[<-q,S0]at g;cases g)).trans (keep b o (fun hb=>by rw[w0 b hb]at g;cases g) (ex b o g))
end
section
variable {E:uT->uS->Prop}
theorem HJ {x:uT}{Q:uT->uS->Prop}(it:uP (uM prog w) A.in1 (pyIter x) (fun it s₂=>∃ I fp wr n P St bt,it=.ref I/\Walks prog w A.in1 I fp wr n P St/\St 0 s₂.heap/\(∀ b∈fp,b<s₂.heap.objs.size)/\Ext s.heap s₂.heap/\s.heap.objs.size<=s₂.heap.objs.size/\(∀ b∈wr,s.heap.get? b=none)/\0<n/\OR prog w A.in1 s.heap P bt/\
   ∀ v h' tk,P (tJ bt (n-1)) v->Ext s.heap h'->Q v { s₂ with heap:=h',toks:=tk }) E s) :
  uP (uM prog w) A (call (.builtin "min") [x]) Q E s:=by
 have pw:(toString "min"++toString ".loop":String)="min.loop":=by decide
 refine call_function_tree F.kind_min F.plain_min F.entry_min (F.args_min1 _) ?_;refine uV (m:=Builtin.Builtins.bindParams "min" ["key","default"] 0 ⟨[],[]⟩) (pR (show Builtin.Builtins.bindParams "min" ["key","default"] 0 ⟨[],[]⟩=pure [none,none] from rfl) ?_);refine uV (uQ ?_);refine uV (uA it (fun it s₂ hw=>?_) fun _ _ e=>e);obtain⟨I,fp,wr,n,P,St,bt,rfl,W,st,inb,ex,big,w0,pos,ask,q⟩:=hw;refine uV (tZ ?_);have nS:s₂.heap.objs.size∉fp:=fun hm=>xN _ (inb _ hm);rw[pw];refine uQ ⟨qk F.plain_min_loop _,HV W bt ask s₂.heap.objs.size nS ?_ w0 pos (W.frame _ _ _ st fun b _ o e=>yQ _ e) (fun b o g=>yQ _ (ex b o g)) (yN _ rfl) fun v h' tk pv e=>q v h' tk pv e⟩;cases g:s.heap.get? s₂.heap.objs.size with
 | none=>rfl
 | some o=>exact absurd (yM g) (Nat.not_lt.mpr big)
end
theorem P5:∀ {a b c:List Nat},ZE false a b=true->ZE false b c=true->ZE false a c=true
 | [],_,_,h,_=>by cases h
 | _::_,[],_,h,_=>by cases h
 | _::_,_::_,[],_,h=>by cases h
 | x::a,y::b,z::c,h1,h2=>by
  have h1:(if x=y then ZE false a b else decide (x<y))=true:=h1;have h2:(if y=z then ZE false b c else decide (y<z))=true:=h2;show (if x=z then ZE false a c else decide (x<z))=true;by_cases e1:x=y;rw[uK e1]at h1;by_cases e2:y=z;rw[uK e2]at h2;rw[uK (e1.trans e2)];exact P5 h1 h2;rw[uL e2,uH]at h2;rw[uL (by lia),uH];lia;rw[uL e1,uH]at h1;by_cases e2:y=z;rw[uL (by lia),uH];lia;rw[uL e2,uH]at h2;rw[uL (by lia),uH];lia
theorem Ng:∀ {a b:List Nat},a.length=b.length->ZE false a b=false->ZE false b a=false->a=b
 | [],[],_,_,_=>rfl
 | [],_::_,h,_,_=>by simp at h
 | _::_,[],h,_,_=>by simp at h
 | x::a,y::b,h,h1,h2=>by
  have h1:(if x=y then ZE false a b else decide (x<y))=false:=h1;have h2:(if y=x then ZE false b a else decide (y<x))=false:=h2;by_cases e:x=y;rw[uK e]at h1;rw[uK e.symm]at h2;rw[e,Ng (by simpa using h) h1 h2];rw[uL e,rF]at h1;rw[uL (fun w=>e w.symm),rF]at h2;lia
theorem Lp {lt:Nat->Nat->Bool}(ir:∀ i,lt i i=false)(tr:∀ i j k,lt i j=true->lt j k=true->lt i k=true):∀ n:Nat,tJ lt n<=n/\∀ j,j<=n->lt j (tJ lt n)=false
 | 0=>⟨yO _,fun j hj=>by (have:j=0:=(by lia);subst this;exact ir 0)⟩
 | n+1=>by
  obtain⟨h1,h2⟩:=Lp ir tr n;show (if lt (n+1) (tJ lt n)=true then n+1 else tJ lt n)<=n+1/\∀ j,j<=n+1->lt j (if lt (n+1) (tJ lt n)=true then n+1 else tJ lt n)=false;by_cases c:lt (n+1) (tJ lt n)=true
  ·rw[uK c];refine⟨yO _,fun j hj=>?_⟩;rcases yb j (n+1) with d|d
   ·cases e:lt j (n+1) with
    | false=>rfl
    | true=>have:=tr _ _ _ e c;rw[h2 j (by lia)]at this;cases this
   have:j=n+1:=(by lia);subst this;exact ir _
  rw[uL c];refine⟨by lia,fun j hj=>?_⟩;rcases yb j (n+1) with d|d;exact h2 j (by lia);have:j=n+1:=by lia
  subst this;simpa using c
section
variable {X:Cx}
def zP (K:yS)(A:uq):List V->Hp->VK->Prop:=fun xs H Q=>∃ (p:Addr) (as:List Addr) (n:Nat) (rs us fs:Nat->List Nat),xs=[.ref p]/\SqL K H p (as.map V.ref)/\as≠[]/\A.units+40<tO/\
 (∀ i,i<as.length->Dt K H (.ref (as.getD i 0)) (fd (rs i) (us i) (fs i))/\(rs i).length=n/\(us i).length=n/\(fs i).length=n)/\
 ∀ k,k<as.length->(∀ j,j<as.length->ZE false (rs j++us j++fs j) (rs k++us k++fs k)=false)->Q (.ref (as.getD k 0)) H
theorem Hd (hc:X.calm=true):Y7 X (.builtin "min") (zP X.K X.A):=by
 intro pins s σ H xs us Q I rr h;obtain⟨p,as,n,rs,ups,fs,rfl,hq,pC,hu,hD,q⟩:=h;obtain⟨u,rfl,ru⟩:=YX rr;obtain rfl:u=uI p:=ru;obtain⟨pL,rv,pl,hz⟩:=I.list hq;have ei:=Ny rv;subst ei;have hL:=pl.isList;have pJ:p<s.heap.objs.size:=by obtain⟨o,ho,_⟩:=id hL;exact yM ho
 have j6:0<as.length:=wI.mpr pC;have hsz:(as.map uI).toArray.size=as.length:=by simp
 have ny:∀ i v,(as.map uI).toArray[i]?=some v->i<as.length/\v=.ref (as.getD i 0):=fun i v hP=>by
  have hv:as[i]?.map uI=some v:=by simpa using hP
  obtain⟨a,ha,rfl⟩:=sJ.mp hv;obtain⟨hi,e⟩:=yP.mp ha;exact⟨hi,by rw[yG,ha];rfl⟩
 have hrd:∀ i,i<as.length->∃ ps,sN s.heap (.ref (as.getD i 0)) (fd (rs i) (ups i) (fs i)) ps:=fun i hi=>Dt.reads I (hD i hi).1 rfl;refine HJ (sC hL ⟨s.heap.objs.size,_,_,_,_,_,fun i j=>ZE false (rs i++ups i++fs i) (rs j++ups j++fs j),rfl,Walks.list (A:=X.A.in1) (I.ok.hd hc) s.heap.objs.size p (yv pJ) (as.map uI).toArray,⟨⟨_,yN _ rfl,rfl,rfl⟩,hL.push _⟩,fun b hb=>?_,fun b o g=>yQ _ g,by rw[xV];lia,fun b hb=>?_,by rw[hsz];exact j6,fun i j vi vj s' Q' E' ex hi hj hQ=>?_,fun v h' tk hP ex=>?_⟩);rw[xV];simp at hb;rcases hb with rfl|rfl;exact xr _;exact xZ pJ
 ·simp at hb;subst hb;cases g:s.heap.get? s.heap.objs.size with
  | none=>rfl
  | some o=>exact absurd (yM g) (xN _)
 obtain⟨li,rfl⟩:=ny i vi hi;obtain⟨lj,rfl⟩:=ny j vj hj;obtain⟨pa,ra⟩:=hrd i li;obtain⟨pb,rb⟩:=hrd j lj;obtain⟨_,a1,a2,a3⟩:=hD i li;obtain⟨_,b1,b2,b3⟩:=hD j lj;exact G8 (s:=s') (Reads.keeps ex ra) (Reads.keeps ex rb) (by lia) (by lia) (by lia) (by show X.A.units+1+30<tO;lia) X.prog X.w E' Q' hQ;obtain⟨li,rfl⟩:=ny _ v hP;obtain⟨b1,b2⟩:=Lp (lt:=fun i j=>ZE false (rs i++ups i++fs i) (rs j++ups j++fs j)) (fun i=>Wm false _) (fun i j k h1 h2=>P5 h1 h2) ((as.map uI).toArray.size-1);refine⟨.ref _,H,I.kept ex,Z,q _ li fun j hj=>b2 j (by rw[hsz];lia)⟩
end
end L2
namespace L2
open PySem PySem.Spec PyProof.Rows
variable{s:uS}{a b:Addr}{Q:Bool->uS->Prop}
section
variable {P:uE}{w:uw}{K:Type}[DecidableEq K](knd:KeyKind P w K)
inductive Yv (h:Heap):List (List K)->List uT->Prop
 | nil:Yv h [] []
 | cons {k:List K} {b:Addr} {ks:List (List K)} {vs:List uT}:pX knd h k b->Yv h ks vs->Yv h (k::ks) (.ref b::vs)
def Is2 (h:Heap)(ks:List (List K))(a:Addr):Prop:=∃ o items n,h.get? a=some o/\o.cls=.type "tuple"/\o.data=.seq items n/\Yv knd h ks items.toList
variable {knd}
theorem Yv.inj {h:Heap}:∀ {x y:List (List K)} {vs:List uT},Yv knd h x vs->Yv knd h y vs->x=y
 | _,_,_,.nil,.nil=>rfl
 | _,_,_,.cons a t,.cons b u=>by rw[a.inj b,Yv.inj t u]
theorem Yv.moved {h h':Heap}(f:∀ k b,pX knd h k b->pX knd h' k b):∀ {x:List (List K)} {vs:List uT},Yv knd h x vs->Yv knd h' x vs
 | _,_,.nil=>.nil
 | _,_,.cons a t=>.cons (f _ _ a) (t.moved f)
theorem Is2.ty {ks:List (List K)}(x:Is2 knd s.heap ks a):s.TypeIs (.ref a) "tuple":=let ⟨o,_,_,ho,hc,_⟩:=x;⟨o,ho,hc⟩
theorem Is2.inj {h:Heap}{a:Addr}{x y:List (List K)}(hx:Is2 knd h x a)(hy:Is2 knd h y a):x=y:=by
 obtain⟨o,i,n,ho,_,hd,hi⟩:=hx;obtain⟨o',i',n',oH,_,lY,i4⟩:=hy;rw[ho]at oH;cases oH;rw[hd]at lY;cases lY;exact hi.inj i4
theorem Is2.keeps {h h':Heap}{ks:List (List K)}{a d:Addr}{o:Obj}{es ep}(x:Is2 knd h ks a)(ho:h.get? d=some o)(hd:o.data=.dict es ep)(hs:xb d h h'):Is2 knd h' ks a:=by
 obtain⟨o',items,n,oH,hc,lY,hi⟩:=x;have pC:a≠d:=by
  rintro rfl;rw[ho]at oH;cases oH;rw[hd]at lY;exact nomatch lY
 exact⟨o',items,n,(hs.2 a pC).trans oH,hc,lY,hi.moved fun _ _ y=>y.keeps ho hd hs⟩
noncomputable def OO (knd:KeyKind P w K)(ks:List (List K)):Int:=reduceHash (sY (ks.map (qB knd)))
noncomputable def U3 (ks:List (List K)):Nat:=(ks.map fun k=>k.length+1).sum
variable {A:uq}{E:uT->uS->Prop}
theorem A8 {ks:List (List K)}{Q:Int->uS->Prop}(hu:A.units+1<tO)(hk:Is2 knd s.heap ks a)(h:Q (OO knd ks) { s with toks:=s.toks+(U3 ks+1) }) :
  uP (uM P w) A (pyHash (.ref a)) Q E s:=by
 have hT:=hk.ty;obtain⟨o,items,n,ho,_,hd,hi⟩:=hk;unfold pyHash
 first|unfold pyHashByItsType|skip
 first|refine uV (wpAny_cRoomFor_or (.inr (by lia)) ?_)|skip
 refine uV (qH hT F.slot_tuple_hash.lookup ?_);show uP _ _ (if (some (qK "tuple.__hash__")==some uk)=true then _ else _) Q E s;rw[uL (by rw[beq_builtin_none];exact yC)];refine uV (qH hT F.slot_tuple_hash.lookup ?_);show uP _ _ (callSpecialIfBoundUnlessNone? (.ref a) "__hash__" _ >>= _) Q E s;refine uV (wpAny_callSpecialIfBoundUnlessNone?_slot hT F.slot_tuple_hash (tW F.slot_tuple_hash hT F.entry_tuple_hash ?_ (F.args_tuple_hash_1 _)));show uP _ _ (Builtin.Tuple.tupleItemsOf (.ref a) >>= _) _ _ s;refine uV (wpAny_tupleItemsOf ho hd ?_);refine uV ?_;rw[<-vd];refine qP _
  (fun rest (b:Array Int) s'=>∃ done left,ks=done++left/\Yv knd s.heap left rest/\b.toList=done.map (qB knd)/\s'={ s with toks:=s.toks+U3 done })
  _ ?_ ?_ _ _ ⟨[],ks,rfl,hi,rfl,rfl⟩
 ·rintro x rest b s' ⟨done,left,rfl,hl,hb,rfl⟩;cases hl with
  | @cons k _ ks' _ h1 oF=>
   refine uV (wpAny_pyHash_tuple hu h1 ?_);have e:({ s with toks:=s.toks+U3 done+(k.length+1) }:uS)={ s with toks:=s.toks+U3 (done++[k]) }:=by
    simp[U3,Nat.add_assoc]
   first
    | exact uQ ⟨done++[k],ks',by simp,oF,by simp[hb],e⟩
    | exact uV (uQ (uQ ⟨done++[k],ks',by simp,oF,by simp[hb],e⟩))
 rintro b s' ⟨done,left,rfl,hl,hb,rfl⟩;cases hl;rw[wD]at h;show uP _ _ (retInt (sY b.toList)) _ _ _;rw[hb];refine wpAny_ret_mkInt ?_;show uP _ _ (if (decide (-(2:Int)^63<=sY (done.map (qB knd)))&&decide (sY (done.map (qB knd))<2^63))=true then _ else _) Q E _;unfold OO reduceHash at h;by_cases hr:(decide (-(2:Int)^63<=sY (done.map (qB knd)))&&decide (sY (done.map (qB knd))<2^63))=true;rw[uK hr];rw[uK hr]at h;exact uQ (by simpa [Nat.add_assoc] using h);rw[uL hr];rw[uL hr]at h;exact uV (rm (uQ (by simpa [Nat.add_assoc] using h)))
theorem AR {x y:List (List K)}{R:Fin->uS->Prop}(hu:A.units<tO)(hx:Is2 knd s.heap x a)(hy:Is2 knd s.heap y b)(h:R (.done (.ret (.bool (decide (x=y))))) s) :
  uP (uM P w) A (sG.«tuple.__eq__» ⟨[.ref a,.ref b],[]⟩) R E s:=by
 have hTb:=hy.ty;obtain⟨oa,xs,na,hoa,_,hda,hia⟩:=hx;obtain⟨ob,ys,nb,hob,_,oQ,hib⟩:=hy;show uP _ _ (qy (.ref b) (.type "tuple") >>= _) _ _ s;refine uV (qQ hTb qc ?_);simp only[vY,xH,q0];refine uV (wpAny_tupleItemsOf hoa hda ?_);refine uV (wpAny_tupleItemsOf hob oQ ?_);refine uV ?_;refine qP _
  (fun rest r s'=>r.1=none/\s'=s/\∃ x' y' dB dE,rest=List.zip dB dE/\Yv knd s.heap x' dB/\Yv knd s.heap y' dE/\decide (x'=y')=decide (x=y)/\(dB.length==dE.length)=(xs.size==ys.size))
  _ ?_ ?_ _ _ ⟨rfl,rfl,x,y,xs.toList,ys.toList,rfl,hia,hib,rfl,by simp⟩
 ·rintro ⟨u,v⟩ rest r s' ⟨hr,rfl,x',y',dB,dE,hz,mx,mI,hdec,hlen⟩;cases mx with
  | nil=>simp at hz
  | @cons k1 b1 x'' xs'' h1 hx''=>
   cases mI with
   | nil=>simp at hz
   | @cons k2 b2 y'' ys'' h2 hy''=>
    simp only[List.zip_cons_cons,qd.injEq,Prod.mk.injEq]at hz;obtain⟨⟨rfl,rfl⟩,rfl⟩:=hz;refine uV (wpAny_eqBool_tuple hu h1 h2 ?_);by_cases hk:k1=k2;subst hk;rw[uO rfl];simp only[vY,xH,q0];refine uQ ⟨rfl,rfl,x'',y'',xs'',ys'',rfl,hx'',hy'',?_,by simpa using hlen⟩;rw[<-hdec];by_cases hxy:x''=y'';simp[hxy];simp[hxy];rw[uJ hk];simp only[Bool.not_false,qz];have hf:decide (x=y)=false:=(by rw[<-hdec];simp[hk]);rw[hf]at h;exact uV (uQ (uQ (uQ h)))
 ·rintro ⟨r1,r2⟩ s' ⟨hr,rfl,x',y',dB,dE,hz,mx,mI,hdec,hlen⟩;simp only at hr;subst hr;refine uQ ?_;have hfin:(xs.size==ys.size)=decide (x=y):=by
   rw[<-hdec,<-hlen];cases mx with
   | nil=>
    cases mI with
    | nil=>simp
    | cons _ _=>simp
   | cons _ _=>
    cases mI with
    | nil=>simp
    | cons _ _=>simp at hz
  show R (.done (.ret (.bool (xs.size==ys.size)))) s';rw[hfin];exact h
theorem eq_2 {x y:List (List K)}(hu:A.units+1<tO)(hx:Is2 knd s.heap x a)(hy:Is2 knd s.heap y b)(h:Q (decide (x=y)) s) :
  uP (uM P w) A (eqBool (.ref a) (.ref b)) Q E s:=by
 unfold eqBool
 try with_reducible refine sk ?_
 show uP _ _ (if (uI a==uI b)=true then _ else _) Q E s;by_cases bO:(uI a==uI b)=true;rw[uK bO];have e:a=b:=by have:=eq_of_beq bO;injection this
 subst e;obtain rfl:=hx.inj hy;exact uV (rm (uQ (by simpa using h)));rw[uL bO];exact uV (wpAny_richCompare_same_room (op:=.Eq) hx.ty hy.ty F.slot_tuple_eq
  (tW F.slot_tuple_eq hx.ty F.entry_tuple_eq (AR hu hx hy ⟨_,rfl,(fun e=>nomatch e),tU h⟩) (F.args_tuple_eq_2 _ _)) (by lia))
theorem C8 {ks:List K}{m:Nat}(hk:pX knd s.heap ks a)(h:Q true s):uP (uM P w) A (eqIsQuiet (m+1) (.ref a)) Q E s:=by
 have hT:=hk.typeIs;obtain⟨o,items,n,ho,_,hd,hi⟩:=hk;unfold eqIsQuiet;refine uV (qH hT F.slot_tuple_eq.lookup ?_);show uP _ _ (qy (.ref a) (.type "tuple") >>= _) _ _ s;refine uV (qQ hT qc ?_);simp only[vY,xH,q0];refine uV (ue ho hd ?_);refine uV ?_;show uP _ _ (forIn items _ _) _ _ s;rw[<-vd];refine qP _ (fun rest r s'=>r.1=none/\s'=s/\∀ v∈rest,carriedByValue v=true) _ ?_ ?_ _ _ ⟨rfl,rfl,hi.byValue⟩;rintro v rest r s' ⟨hr,rfl,ph⟩;rw[eqIsQuiet_byValue _ (ph v xS)];refine uV (uQ ?_);simp only[vY,xH,q0];exact uQ ⟨rfl,rfl,fun u hu'=>ph u (yx _ hu')⟩;rintro ⟨r1,r2⟩ s' ⟨hr,rfl,_⟩;simp only at hr;subst hr;exact uQ h
theorem De {ks:List (List K)}(hk:Is2 knd s.heap ks a)(h:Q true s):uP (uM P w) A (eqIsQuiet 8 (.ref a)) Q E s:=by
 have hT:=hk.ty;obtain⟨o,items,n,ho,_,hd,hi⟩:=hk;unfold eqIsQuiet;refine uV (qH hT F.slot_tuple_eq.lookup ?_);show uP _ _ (qy (.ref a) (.type "tuple") >>= _) _ _ s;refine uV (qQ hT qc ?_);simp only[vY,xH,q0];refine uV (ue ho hd ?_);refine uV ?_;show uP _ _ (forIn items _ _) _ _ s;rw[<-vd];refine qP _ (fun rest r s'=>r.1=none/\s'=s/\∃ ks,Yv knd s.heap ks rest) _ ?_ ?_ _ _ ⟨rfl,rfl,ks,hi⟩
 ·rintro v rest r s' ⟨hr,rfl,ks',hl⟩;cases hl with
  | cons h1 oF=>
   refine uV (C8 (m:=6) h1 ?_);simp only[vY,xH,q0];exact uQ ⟨rfl,rfl,_,oF⟩
 rintro ⟨r1,r2⟩ s' ⟨hr,rfl,_⟩;simp only at hr;subst hr;exact uQ h
end
variable{P:uE}{w:uw}
noncomputable def TX {K:Type}[DecidableEq K](knd:KeyKind P w K):HeapKind P w (List (List K)) where
 is:=Is2 knd
 hash:=OO knd
 draws:=fun ks=>U3 ks+1
 room:=fun A=>A.units+1<tO
 inj:=fun hx hy=>hx.inj hy
 keeps:=fun x ho hd hs=>x.keeps ho hd hs
 pyHash:=fun hu hk h=>A8 hu hk h
 eqBool:=fun hu hx hy h=>eq_2 hu hx hy h
 quiet:=fun hk h=>De hk h
noncomputable def rk (r:List Nat):List Key:=r.map fun (n:Nat)=>ur (n:Int)
noncomputable def YH (x:List Nat×List Nat):List (List Key):=[rk x.1,rk x.2]
theorem JS (r:List Nat):(rk r).map kV=nv r:=by
 unfold rk nv;rw[xl];rfl
theorem PP:∀ {r u:List Nat},rk r=rk u->r=u
 | [],[],_=>rfl
 | [],_::_,e=>by simp[rk]at e
 | _::_,[],e=>by simp[rk]at e
 | a::r,b::u,e=>by
  have e:(ur (a:Int):Key)::rk r=ur (b:Int)::rk u:=e;injection e with e1 e2
  injection e1 with e1
  rw[PP e2,show a=b by lia]
theorem Na {x y:List Nat×List Nat}(e:YH x=YH y):x=y:=by
 unfold YH at e;injection e with e1 e2
 injection e2 with e2 _
 exact Prod.ext (PP e1) (PP e2)
noncomputable def ent (xs:List ((List Nat×List Nat)×Addr)):List (List (List Key)×Addr×uT):=xs.map fun x=>(YH x.1,x.2,tj true)
theorem Fq (xs:List ((List Nat×List Nat)×Addr)):(ent xs).map (·.1)=(xs.map (·.1)).map YH:=by unfold ent;rw[xl,xl];rfl
variable{xs:List ((List Nat×List Nat)×Addr)}
theorem Gr (h:(xs.map (·.1)).Nodup):((ent xs).map (·.1)).Nodup:=by
 rw[Fq];exact wQ.mpr (List.Pairwise.imp (fun pC e=>pC (Na e)) h)
theorem K6 (xs:List ((List Nat×List Nat)×Addr))(x:List Nat×List Nat):(qT (ent xs) (YH x)).isSome=xs.any fun z=>decide (z.1=x):=by
 induction xs with
 | nil=>rfl
 | cons z zs ih=>
  by_cases e:z.1=x;have b:qT (ent (z::zs)) (YH x)=some (z.2,tj true):=by simp[qT,ent,xi,e]
  rw[b];simp[e];have e':¬ YH z.1=YH x:=fun q=>e (Na q);have b:qT (ent (z::zs)) (YH x)=qT (ent zs) (YH x):=by simp[qT,ent,xi,e']
  rw[b,ih];simp[e]
section
variable (P:uE)(w:uw)
def Tq (a:Addr)(xs:List ((List Nat×List Nat)×Addr))(h:Heap):Prop:=xs.length<=uR/\(a==tI)=false/\
 ∃ o es ep,h.get? a=some o/\o.ExactDict/\o.data=.dict es ep/\es.toList=(ent xs).map (entryOfKey (TX (Zt P w)))/\(xs.map (·.1)).Nodup
noncomputable def dS (a:Addr)(xs:List ((List Nat×List Nat)×Addr)):HO:=.ext (Tq P w a xs)
def DS (H:Hp)(a:Addr)(xs:List ((List Nat×List Nat)×Addr)):Prop:=((xs=[]/\H a=some (.dK []))\/H a=some (dS P w a xs))/\∀ x∈xs,ZV H x.2 x.1.1 x.1.2
end
section
variable {H H':Hp}{h:Heap}
theorem DS.same (e:Z8 H H')(d:DS P w H a xs):DS P w H' a xs:=⟨d.1.elim (fun z=>.inl ⟨z.1,e _ _ z.2⟩) fun z=>.inr (e _ _ z),fun x hx=>(d.2 x hx).same e⟩
theorem DS.nil (e:H a=some (.dK [])):DS P w H a []:=⟨.inl ⟨rfl,e⟩,fun x hx=>nomatch hx⟩
theorem DS.ne {ys:List V}(d:DS P w H a xs)(e:H b=some (.tup ys)):b≠a:=by
 rintro rfl;rcases d.1 with ⟨_,z⟩|z<;>rw[e]at z<;>cases z
theorem DS.away {o:HO}(d:DS P w H a xs)(hb:b≠a)(ht:∀ ys,H b≠some (.tup ys)):DS P w (upd H b o) a xs:=by
 have f:∀ c ys,H c=some (.tup ys)->upd H b o c=some (.tup ys):=fun c ys e=>by
  rw[Z5 (fun z=>ht ys (by rw[<-z];exact e))];exact e
 refine⟨?_,fun x hx=>?_⟩;rw[Z5 hb.symm];exact d.1;obtain⟨p,q,h1,h2,h3⟩:=d.2 x hx;exact⟨p,q,f _ _ h1,f _ _ h2,f _ _ h3⟩
theorem Tq.of (ok:HOk P w H h)(d:DS P w H a xs):Tq P w a xs h:=by
 rcases d.1 with ⟨rfl,e⟩|e;obtain⟨z,y,vs,r,o,es,ep,h1,h2,h3,h4,h5,h6⟩:=Ro ok e;cases r;generalize hl:es.toList=l at h5;cases h5;exact⟨xY _,y,o,es,ep,h1,h2,h3,hl,List.nodup_nil⟩;exact (show ZC P w H h a (dS P w a xs) from ok a _ e).1
theorem ZV.is2 {r u:List Nat}(ok:HOk P w H h)(e:ZV H b r u):Is2 (Zt P w) h (YH (r,u)) b:=by
 obtain⟨p,q,h1,h2,h3⟩:=e;obtain⟨_,pL,rv,o,g1,g2,n,g3⟩:=(show ZC P w H h b (.tup [.ref p,.ref q]) from ok b _ h1);have k1:pX (Zt P w) h (rk r) p:=Vo ok (by rw[JS];exact h2);have k2:pX (Zt P w) h (rk u) q:=Vo ok (by rw[JS];exact h3);refine⟨o,pL.toArray,n,g1,g2,g3,?_⟩;rw[List.toList_toArray];cases rv with
 | cons a1 t=>
  cases t with
  | cons a2 t2=>
   cases t2;cases a1;cases a2;exact .cons k1 (.cons k2 .nil)
theorem DS.dict (ok:HOk P w H h)(d:DS P w H a xs):(a==tI)=false/\xs.length<=uR/\h.DictOfH (TX (Zt P w)) a (ent xs)/\(xs.map (·.1)).Nodup:=by
 obtain⟨z,y,o,es,ep,h1,h2,h3,h4,h5⟩:=Tq.of ok d;refine⟨y,z,⟨o,es,ep,h1,h2,h3,h4,fun x hx=>?_,Gr h5⟩,h5⟩;obtain⟨x',mx,rfl⟩:=yE.mp hx;exact (d.2 x' mx).is2 ok
end
variable{pos:Pos}
section
variable {X:Cx}{o i e value:Expr}{pos' nX:Pos}{td ty tv:TE}
def rInS (P:uE)(w:uw)(A:uq):R2:=fun x y H Q=>∃ (a b:Addr) (xs:List ((List Nat×List Nat)×Addr)) (r u:List Nat),x=.ref b/\y=.ref a/\DS P w H a xs/\ZV H b r u/\A.units+2<tO/\Q (.bl (xs.any fun z=>decide (z.1=(r,u)))) H
theorem BJ:OpR X (tV .In) (rInS X.prog X.w X.A):=by
 intro pins s σ H x y v u Q I rx ry h;obtain⟨a,b,xs,r,u',rfl,rfl,d,hs,hu,q⟩:=h;cases (show v=uI b from rx);cases (show u=uI a from ry);obtain⟨hd,_,dd,_⟩:=d.dict I.hok;refine wpAny_in_heap (knd:=TX (Zt X.prog X.w)) (k:=YH (r,u')) hu (hs.is2 I.hok) hd dd ?_;rw[K6];exact⟨.bl _,H,I.tok _,Z,q⟩
def zi (P:uE)(w:uw)(A:uq)(td ty tv:TE):TS:=fun D σ H=>tv σ H fun v H1=>td σ H1 fun x H2=>ty σ H2 fun y H3=>∃ (a b:Addr) (xs:List ((List Nat×List Nat)×Addr)) (r u:List Nat),
 x=.ref a/\y=.ref b/\v=.bl true/\DS P w H3 a xs/\ZV H3 b r u/\A.units+2<tO/\(r,u)∉xs.map (·.1)/\xs.length<uR/\∀ H4,(∀ c,c≠a->H4 c=H3 c)->DS P w H4 a (xs++[((r,u),b)])->D.nx σ H4
theorem Dl (ho:PE X o td)(hi:PE X i ty)(hv:PE X value tv)(hs:rW value (some (.Subscript o i pos')) pos.line X.env=pure false) :
  PS X (.Assign [.Subscript o i pos'] value pos) (zi X.prog X.w X.A td ty tv):=by
 intro pins s σ H D I h;refine qq (thn (hv pins s σ H _ I h) fun r s1 ⟨v,H1,I1,rv,q1⟩=>thn (ho pins s1 σ H1 _ I1 q1) fun u s2 ⟨x,H2,I2,rx,q2⟩=>thn (hi pins s2 σ H2 _ I2 q2) fun iv s3 ⟨y,H3,I3,ry,a,b,xs,rr,uu,ex,ey,ev,d,o9,hu,hn,hl,q3⟩=>?_) hs;subst ex ey ev;obtain rfl:u=uI a:=rx;obtain rfl:iv=uI b:=ry;obtain rfl:r=tj true:=rv;obtain⟨hd,hz,dd,j4⟩:=d.dict I3.hok;have hz':(ent xs).length<=uR:=by unfold ent;rw[yK];exact hz
 refine wpAny_setItem_heap (knd:=TX (Zt X.prog X.w)) (k:=YH (rr,uu)) (hsz:=hz') hu (o9.is2 I3.hok) dd fun h' nY oG=>?_;have iF:qT (ent xs) (YH (rr,uu))=none:=by
  rw[<-Option.not_isSome_iff_eq_none,K6];intro hc;obtain⟨z,ag,hz2⟩:=xq.mp hc;exact hn (yE.mpr ⟨z,ag,uF hz2⟩)
 rw[storedH_new iF]at nY;have eN:ent xs++[(YH (rr,uu),b,tj true)]=ent (xs++[((rr,uu),b)]):=by unfold ent;rw[ym];rfl
 rw[eN]at nY;obtain⟨q,es,ep,hq,h2,h3,h4,_,_⟩:=nY;have new:Tq X.prog X.w a (xs++[((rr,uu),b)]) h':=by
  refine⟨by rw[yJ];show xs.length+1<=_;lia,hd,q,es,ep,hq,h2,h3,h4,?_⟩;rw[ym];refine xw.mpr ⟨j4,by simp,fun p hp p' gA e=>?_⟩;have gA:p'=(rr,uu):=by simpa using gA
  rw[e,gA]at hp;exact hn hp
 have mu:Mut (H3 a):=by rcases d.1 with ⟨_,z⟩|z<;>rw[z]<;>exact tH
 have I4:=Se (ob:=dS X.prog X.w a (xs++[((rr,uu),b)])) (t':=s3.toks+(TX (Zt X.prog X.w)).draws (YH (rr,uu))) I3 mu oG ⟨q,hq⟩ ⟨new,⟨q,hq⟩,fun h1 h2 ⟨z1,z2,o1,es1,ep1,z3,z4⟩ k=>⟨z1,z2,o1,es1,ep1,k _ z3,z4⟩⟩;refine⟨σ,_,I4,q3 _ (fun c hc=>Z5 hc) ⟨.inr Z0,fun x hx=>?_⟩⟩;have hx:x∈xs\/x=((rr,uu),b):=by simpa using hx
 have g:ZV H3 x.2 x.1.1 x.1.2:=by
  rcases hx with hx|rfl;exact d.2 x hx;exact o9
 obtain⟨p,q',g1,g2,g3⟩:=g;exact⟨p,q',by rw[Z5 (d.ne g1)];exact g1,by rw[Z5 (d.ne g2)];exact g2,by rw[Z5 (d.ne g3)];exact g3⟩
end
variable{oY:List V}{ds:List uT}{es:List Expr}
section
variable {X:Cx}{CX:CXT}{k:Nat}{f C:Addr}{fd:uC}{ps:List Str}{sp:Sp}{E:XK}{m:Str}{apos:Pos}{e o:Expr}{ta:TE}{t:TA}{σ:St}
theorem Ez {pl:Sem Bool}(he:PE X o ta)(c:Cls X.K C)(hm:UZ X.K C m f)(F:Z6 X.prog X.w X.K X.mg X.base CX k f fd ps sp)(hr:ZK k X.A)(hb:Zn X.K fd ps ds)(hd:ZX oY ds)(hx:Qm CX X E σ)(ha:PA X (e::es) t)
  (oK:uB (e::es) X.env=(false,eval e X.env)::uB es X.env:=by rfl) (oJ:(sL pos (uB es X.env)).any (·.1)=false:=by rfl)
  (ht:eval (.Call (.Attribute o m apos) (e::es) [] pos) X.env=(do
   let ov <-eval o X.env
   standAt apos.atName
   let (f,first) <-holding [ov] (pO ov m pl)
   callWith pos f first (sL pos (uB (e::es) X.env)) (backToKw pos (pT [] X.env))):=by rfl) :
  PE1 X σ (.Call (.Attribute o m apos) (e::es) [] pos) (ON C m sp oY E ta t):=by
 intro pins s H Q I h;refine wC (pl:=pl) (thn (he pins s σ H _ I h) fun u s1 ⟨x,H1,I1,rx,a,dx,fs,ex,ea,l,q⟩=>?_) ht;subst ex;obtain rfl:u=uI a:=rx;refine QR I1 ea c hm l ?_;refine w4 (first:=[.ref a]) (h₀:=X.base) I.ok.mod.kin hm.kp (thn (ha pos pins s1 σ H1 _ I1 q) fun us s2 ⟨vs,H2,I2,r,q2⟩=>⟨I2.kIn,?_⟩) oK oJ;have r2:ZX (.ref a::vs++oY) (.ref a::us++ds):=ZX.append (.cons rfl r) hd;have hl:(uI a::us++ds).length=ps.length:=by rw[<-r2.length];exact F.len _ _ _ _ q2
 refine rN (rT (F.run X.A X.stack s2 H2 ⟨.ref a::us,[]⟩ (.ref a::us++ds) (.ref a::vs++oY) Q E hr I2.env0 (hb s2 _ I2.kIn hl) r2 q2) fun r s' hq=>?_);cases r with
 | error ev=>exact hx pins H2 s2 ev s' I2 hq
 | ok fl=>
  cases fl with
  | ret u=>exact I2.after hq
  | next=>exact uj hq
  | brk=>exact uj hq
  | cont=>exact uj hq
end
variable{prog:uE}{A:uq}{E:uT->uS->Prop}
theorem Oq {it l:Addr}{i:Nat}{items}{Q:Option uT->uS->Prop}(hh:GK A s.heap)(hi:s.heap.IsListIter it l i)(hl:s.heap.IsList l items)(hx:items[i]?=none)
  (hQ:∀ h',Heap.ExtBut it s.heap h'->Q none { s with heap:=h' }):uP (uM prog w) A (rD (.ref it)) Q E s:=by
 obtain⟨e,oe,ws,hh,he,bW,h2⟩:=hh;obtain⟨oi,gi,ci,di⟩:=id hi;obtain⟨ol,gl,_,nl,dl⟩:=hl;have ne:e≠it:=fun z=>by
  rw[z,gi]at he;cases he;rw[di]at bW;cases bW;simp at h2
 unfold rD;refine uV (ql (ua (name:=uU "__next__") hi.typeIs slot_listiter_next (tW slot_listiter_next hi.typeIs entry_listiter_next ?_ (args_listiter_next _))));show uP _ _ (rH (.ref it) 0 >>= _) _ _ s;refine uV (um gi di (x:=.ref l) rfl ?_);show uP _ _ (if (uI l==uk)=true then _ else _) _ _ s;rw[uL (show ¬ ((uI l==uk)=true) from yC)];show uP _ _ (rH (.ref it) 1 >>= _) _ _ s;refine uV (um gi di (x:=.int i 0) rfl ?_);show uP _ _ (rz (.ref l) >>= _) _ _ s;refine uV (ue gl dl ?_);simp only[yh,hx];refine uV (rm (uV (tD gi di (by simp) ?_)));show uP _ _ (newExc (.type "StopIteration") [] >>= _) _ _ _;refine uV ?_;simp only[newExc,newTuple];refine uV (tZ ?_ (by size_fits));refine uV (m:=rY _ _) (pR (a:=uk) (by first|rfl|(simp only[rY];rfl)) ?_);refine tZ ?_ (by size_fits);have b0:=(yj (h:=s.heap) (sj fun vs=>vs.setIfInBounds 0 uk) (uc ne)).trans he;refine Jk (e:=e) hh (yv (yz (yM b0) (by simp))) (yN _ rfl) rfl (by simp;omega) (yQ _ (yQ _ b0)) bW h2 ?_;refine uV (qQ (T:="StopIteration") (b:=true) ⟨_,xW _ (yN _ rfl) rfl,rfl⟩ isSubtype_stop ?_);refine uQ (hQ _ fun b o hb e=>?_);have e:=(yj (h:=s.heap) (sj fun vs=>vs.setIfInBounds 0 uk) (uc hb)).trans e;have pJ:=yM e;rw[yj _ _ (show (Heap.push _ _).objs.size≠b from by rw[xV];exact w9 (xZ pJ))];exact yQ _ (yQ _ e)
variable{tg:Expr}
theorem Ik {K:yS}(a it:Addr):JR P w K tg (Itl K a) [it] it (fun i h=>h.IsListIter it a i) where
 mem:=by simp
 obj:=(QI (P:=P) (w:=w) (K:=K) (tg:=tg) a it).obj
 keep:=(QI (P:=P) (w:=w) (K:=K) (tg:=tg) a it).keep
 item:=by
  intro X hP hw hK i pins s σ H E I hf st hg;subst hP hw hK;obtain⟨xs,x,hq,hx⟩:=hg;obtain⟨pL,rv,p,hz⟩:=I.list hq;obtain⟨u,hu,ru⟩:=rv.get hx;obtain⟨f0,f1,f2,f3,f4,f5⟩:=hf it (by simp);refine qr st p.isList (x:=u) (by simpa using hu) fun h' nZ sb=>?_;have I1:Inv X pins σ H { s with heap:=h' }:=I.turned (t':=s.toks) (fun b o hb e=>(sb.2 b hb).trans e) f0 f1 f3 f4 f5;obtain⟨o,e,c,d⟩:=id nZ;exact⟨u,Z,TK (s:={ s with heap:=h' }) e c d (by decide) ⟨x,H,I1,ru,⟨Z,fun ys hy=>by rw[I.list_inj hy hq];exact hx⟩,nZ,fun b hb=>(hf b hb).1⟩⟩
 done:=by
  intro X hP hw hK eh hA i pins s σ H E I hf st hex hg;subst hP hw hK;obtain⟨xs,hq,hx⟩:=hg;obtain⟨pL,rv,p,hz⟩:=I.list hq;obtain⟨f0,f1,f2,f3,f4,f5⟩:=hf it (by simp);obtain⟨C,d,hex⟩:=hex;obtain⟨⟨o,vs,h1,_,_,h4,h5⟩,_⟩:=I.hok eh _ hex;have hl:=rv.length;exact Oq ⟨eh,o,vs,hA,h1,h4,h5⟩ st p.isList (by simp;omega) fun h' eb=>⟨rfl,I.turned (t':=s.toks) (fun b o hb e=>eb b o hb e) f0 f1 f3 f4 f5⟩
 self:=fun _ _ _ _ _ st h=>qf st h
def PIU (X:Cx)(tg iter:Expr)(wi:TI):Prop:=∀ (pins:List (Addr×Obj)) (s:uS) (σ:St) (H:Hp) (R:It->Hp->Prop),Inv X pins σ H s->wi σ H R->
  uP (uM X.prog X.w) X.A (eval iter X.env) (fun v s1=>uP (uM X.prog X.w) X.A (pyIter v) (PIEU X pins σ tg R) X.xe s1) X.xe s
variable{eh:Addr}
section
variable {X:Cx}{elt iter:Expr}{sc:rX}{ta:TE}{wi:TI}{g:TG}{te:TE}{N:List Str}{names:List (Str×r6)}{N':List Str}{k:Nat}{pull:List Nat}
theorem HB (hA:X.A.handled=some (.ref eh))(B:Xg N names N' k pull sc)(hN:X.N=N)(nV:X.env.scope.names=names)(hi:PIU X tg iter wi)
  (hg:∀ cl C s₂ H₁ fp pins,PG (blk X sc cl C N' s₂ H₁ fp pins) tg g) (he:∀ cl C s₂ H₁ fp pins,PE (blk X sc cl C N' s₂ H₁ fp pins) elt te)
  (hs:∀ x,sx iter X.env x=pure x:=by intro _;rfl):PE X (.ListComp elt [⟨tg,iter,[],0⟩] sc pos) (K0 eh wi k pull g te):=by
 intro pins s σ H Q I h;rw[eval_ListComp];have pD:∀ y∈sc.names,y.2=.free->∃ c,X.env.cells.lookup y.1=some c:=fun y hy hf=>I.ok.has y.1 (.inl (by
  show X.env.scope.names.lookup y.1=_
  rw[nV];exact B.fre y hy hf))
 obtain⟨cl,ecl,c1,_,c3⟩:=WO (env:=X.env) sc.names [] pD (fun x c e=>nomatch e);rw[<-VN]at ecl;refine sR (use:=none) rfl hs ecl B.kind B.loc (thn (hi pins s σ H _ I h) fun xv s1 h1=>thn h1 fun ju s2 h2=>?_);obtain⟨it,fp,tn,J,H1,e,I2,T,mK,f2,hW⟩:=h2;subst e;refine UJ B hN nV I2 c1 c3 f2 mK T.obj T.keep (fun i=>T.item (blk X sc cl (s2.heap.objs.size+1) N' s2 H1 fp pins) rfl rfl rfl i []) (fun s=>T.self _ 0 s) (hW _ (I2.hok.fresh (yO _))) (hg _ _ _ _ _ _) (fun pI s6 σ6 H6 R I6 q6=>uA (he _ _ _ _ _ _ pI s6 σ6 H6 R I6 q6) (fun _ _ z=>z) fun _ _ z=>z.elim) fun i σ3 H3 s3 I3 fk st3 z=>?_;refine thn (T.done (blk X sc cl (s2.heap.objs.size+1) N' s2 H1 fp pins) rfl rfl rfl hA i [] s3 σ3 H3 _ I3 fk st3 z.2.1 z.1) fun r s4 h=>⟨h.1,Qv I2 f2 h.2 z.2.2⟩
end
variable{X:Cx}
theorem Gb {l:Expr}{tl:TE}(hl:PE X l tl):PIU X tg l (Wx X.K tl):=by
 intro pins s σ H R I h;refine thn (hl pins s σ H _ I h) fun v s1 ⟨x,H1,I1,r1,q1⟩=>?_;obtain⟨a,e,⟨xs,hq⟩,q⟩:=q1;subst e;cases r1;obtain⟨pL,rv,p,hz⟩:=I1.list hq;refine sC p.isList ?_;refine⟨s1.heap.objs.size,[s1.heap.objs.size],_,_,H1,Z,I1.kept (t':=s1.toks) fun b o e=>yQ _ e,Ik a _,⟨_,yN _ Z,Z,Z⟩,fun b hb=>?_,q⟩;have e:b=s1.heap.objs.size:=by simpa using hb
 subst e;exact I1.fpOk (yO _) (I1.hok.fresh (yO _))
theorem Cn {oe:Obj}{ve:Array uT}(hA:A.handled=some (.ref eh))(x4:oe.data=.fields ve)(x5:ve[2]?=some .none)(I ax:Addr)(n1:ax≠I)(n2:eh≠I)(items:Array uT) :
  Walks prog w A I [I,ax,eh] [I] items.size (fun i v=>items[i]?=some v) (fun i h=>h.IsListIter I ax i/\h.IsList ax items/\h.get? eh=some oe) where
 sub:=fun b hb=>by simp at hb;simp[hb]
 frame:=fun _ _ _ st hk=>⟨st.1.at fun o e=>hk I (by simp) o e,st.2.1.at fun o e=>hk ax (by simp) o e,hk eh (by simp) _ st.2.2⟩
 item:=fun i s Q E hi st hQ=>by
  refine qr st.1 st.2.1 (x:=items[i]) (by simp[hi]) fun h' a1 a2=>?_;exact hQ _ h' s.toks (by simp[hi]) ⟨a1,st.2.1.extBut a2.extBut n1,a2.extBut _ _ n2 st.2.2⟩ fun b o hb e=>a2.extBut b o (fun h=>hb (by simp[h])) e
 done:=fun s Q E st hQ=>Oq ⟨eh,oe,ve,hA,st.2.2,x4,x5⟩ st.1 st.2.1 (by simp) fun h' mf=>hQ h' s.toks fun b o hb e=>mf b o (fun h=>hb (by simp[h])) e
 self:=fun _ _ _ _ st hQ=>qf st.1 hQ
theorem HP (hA:X.A.handled=some (.ref eh)):Y7 X (.builtin "sum") (fun xs H Q=>∃ (p:Addr) (ns:List Int),xs=[.ref p]/\SqL X.K H p (ns.map V.int)/\(∃ C d,H eh=some (exO eh C d))/\Q (.int ns.sum) H):=by
 intro pins s σ H xs us Q I r h;obtain⟨p,ns,rfl,hq,⟨Ce,de,hex⟩,q⟩:=h;obtain⟨⟨oe,ve,x1,_,_,x4,x5⟩,_⟩:=I.hok eh _ hex;obtain⟨u,rfl,ru⟩:=YX r;obtain rfl:u=uI p:=ru;obtain⟨pL,rv,pl,hz⟩:=I.list hq;have hL:=pl.isList;have pJ:p<s.heap.objs.size:=by obtain⟨o,ho,_⟩:=id hL;exact yM ho
 have hlen:pL.length=ns.length:=by rw[<-rv.length];simp
 refine call_sum_walkG (sC hL ⟨s.heap.objs.size,_,_,pL.toArray.size,_,_,fun i=>ns.getD i 0,rfl,Cn (A:=X.A.in1) hA x4 x5 s.heap.objs.size p (yv pJ) (yv (yM x1)) pL.toArray,⟨⟨_,yN _ rfl,rfl,rfl⟩,hL.push _,yQ _ x1⟩,fun b hb=>?_,fun i v hP=>?_,fun h' tk t' hk=>?_⟩);rw[xV];simp at hb;rcases hb with rfl|rfl|rfl;exact xr _;exact xZ pJ;exact xZ (yM x1);have hv:pL[i]?=some v:=by simpa using hP
 have hi:i<ns.length:=by rw[<-hlen];exact (yP.mp hv).1
 have hb:(ns.map V.int)[i]?=some (.int ns[i]):=by simp[hi]
 obtain⟨u,hu,t,rfl⟩:=rv.get hb;rw[hv]at hu;cases hu;exact⟨t,by simp[yG,hi]⟩;refine⟨.int ns.sum,H,?_,⟨t',?_⟩,q⟩;refine I.kept fun b o e=>hk b o (fun hb=>?_) (yQ _ e);have:=yM e;simp at hb;rw[hb]at this;exact xN _ this;rw[II _ _ (by rw[yt,hlen];exact yO _),yt,hlen,xn]
def ET (K:yS):List V->Hp->VK->Prop:=fun xs H Q=>∃ (e tp D:Addr) (d:Option Addr) (b:Bool) (cs:List Addr),xs=[.ref e,.ref tp]/\SqT K H tp (cs.map V.ref)/\XAt H e D d/\WX K D/\u7 K (.ref D) (cs.map uI)=some b/\Q (.bl b) H
theorem IV:Y7 X (.builtin "isinstance") (ET X.K):=by
 intro pins s σ H xs us Q I r h;obtain⟨e,tp,D,d,b,cs,rfl,ht,⟨he,hd⟩,hx,hk,q⟩:=h;obtain⟨u,w',rfl,ru,pH⟩:=TN r;cases ru;cases pH;obtain⟨pL,rv,⟨ot,g1,g2,n,g3⟩,_⟩:=I.tuple ht;have ei:=Lz rv;subst ei;obtain⟨⟨o,vs,h1,h2,h3,h4,_⟩,_⟩:=I.hok e _ he;have ii:∃ od,xu s.heap e o D od:=by
  cases d with
  | none=>exact⟨none,h1,h2,by unfold wq;rw[h4],by rw[h3];trivial⟩
  | some dx=>
   obtain⟨fs,hf⟩:=hd dx rfl;obtain⟨ob,z⟩:=(I.hok dx _ hf).obj;exact⟨some ob,h1,h2,by unfold wq;rw[h4],by rw[h3];exact z⟩
 obtain⟨od,ii⟩:=ii;obtain⟨c0,d0,dat0,sl0⟩:=ot;cases g2;cases g3;exact PySem.W.kia_tup (MJ hx) I.kIn ⟨_,_,ii⟩ g1 hk (fun z=>nomatch z) fun tk=>⟨.bl b,H,I.tok tk,rfl,q⟩
def Dq:V->List V->Hp->VK->Prop:=fun x vs H Q=>∃ (p:Addr) (r:List Bool),x=.ref p/\vs=[.bl true]/\H p=some (.lst (r.map V.bl))/\true∈r/\Q (.int (r.idxOf true:Nat)) H
noncomputable def eTru:uT->Bool
 | .bool m=>m
 | _=>false
theorem NW:∀ (r:List Bool) (m:Nat),m<r.idxOf true->r[m]?≠some true
 | [],m,h=>by simp
 | true::r,m,h=>by simp at h
 | false::r,0,h=>by simp
 | false::r,m+1,h=>by
  have e:(false::r).idxOf true=r.idxOf true+1:=by rw[List.idxOf_cons];rfl
  rw[e]at h;simpa using NW r m (by lia)
theorem HS:MtR X "list.index" Dq:=by
 intro pins s σ H x vs v us Q I rx rv h;obtain⟨p,r,rfl,rfl,hp,hi,q⟩:=h;cases rx;obtain⟨u,rfl,ru⟩:=rv.one;obtain rfl:u=tj true:=ru;obtain⟨z,pL,n,r',hl,e⟩:=I.lstM hp;have hlen:pL.length=r.length:=by rw[<-r'.length,yK]
 have item:∀ (j:Nat) (hj:j<pL.length),∃ m:Bool,r[j]?=some m/\pL[j]=.bool m:=fun j hj=>by
  have fv:j<r.length:=by rw[<-hlen];exact hj
  obtain⟨u,hu,ru⟩:=r'.get (show (r.map V.bl)[j]?=some (.bl r[j]) by rw[yw,yR fv];rfl);rw[yR hj]at hu;exact⟨_,yR fv,(uz.inj hu).trans ru⟩
 have b6:=wz hi;have pJ:r.idxOf true<pL.length:=by rw[hlen];exact b6
 have hz63:(uR:Nat)<=2^62:=by decide
 refine qa PySem.F.slot_list_index ⟨_,e,rfl⟩ PySem.F.entry_list_index (PySem.F.args_list_index_2 _ _) (SeqAt.list_indexAt p pL.toArray n none #[] (.bool true) eTru (r.idxOf true) (by rw[yt];exact pJ) (by
   have nu:(r.map V.bl).length<=uR:=z
   rw[yK]at nu
   lia) ?_ (fun m hm hlt'=>?_)) ⟨e,fun y hy=>?_,?_⟩
 obtain⟨m,hm,ey⟩:=item _ pJ;rw[List.getElem_toArray,ey];rw[yR b6,List.getElem_idxOf b6]at hm;show m=true;exact (uz.inj hm).symm
 ·have j3:m<pL.length:=by simpa using hm
  obtain⟨k,hk,ey⟩:=item m j3;rw[List.getElem_toArray,ey];show k=false;cases k with
  | false=>rfl
  | true=>exact absurd hk (NW r m hlt')
 have hy:y∈pL:=by simpa using hy
 obtain⟨j,hj,ey⟩:=yc.mp hy;obtain⟨m,_,e2⟩:=item j hj;rw[<-ey,e2];have:=SeqAt.EqAt.bool_bool (A:=X.A.in1) (s:=s) m true;have e3:(m==true)=eTru (.bool m):=by cases m<;>rfl
 rw[e3]at this;exact this;exact⟨.int (r.idxOf true:Nat),H,I.tok _,⟨_,Z⟩,q⟩
structure Ri (P:uE)(w:uw)(K:yS)(mg:Str->Option uT)(base:Heap)(k:Nat)(f:Addr)(fd:uC)(ps:List Str)(sp:Addr->Sp):Prop where
 len:∀ eh vs H Q E,sp eh vs H Q E->vs.length=ps.length
 run:∀ (eh:Addr) (A:uq) (outer:List Env) (s:uS) (H:Hp) (args:Args) (us:List uT) (vs:List V) (Q:VK) (E:XK),A.handled=some (.ref eh)->YD k A->Ww P w K mg base A outer s H->qe s fd args (ps.zip us)->ZX vs us->sp eh vs H Q E->
  rL (uM P w) A (.call (.ref f) args) (CR CX0 outer P w H s Q E) s
variable{sp:Addr->Sp}
section
variable {k:Nat}{f C:Addr}{fd:uC}{ps:List Str}{E:XK}{x:Str}{p:Pos}{e:Expr}{t:TA}
theorem M3 (hA:X.A.handled=some (.ref eh))(F:Ri X.prog X.w X.K X.mg X.base k f fd ps sp)(hr:YD k X.A)(hg:Gl X x)(hm:X.mg x=some (.ref f))(hk:yf X.K (.ref f)=true)(hb:Zn X.K fd ps ds)(hd:ZX oY ds)
  (ha:PA X (e::es) t) (oQ:(x==("__debug__":Str))=false:=by decide) (he:uB (e::es) X.env=(false,eval e X.env)::uB es X.env:=by rfl) (oJ:(sL pos (uB es X.env)).any (·.1)=false:=by rfl) :
  PE X (.Call (.Name x p) (e::es) [] pos) (YR (sp eh) oY E t):=by
 intro pins s σ H Q I h;refine sU (Xz I hg hm ?_ oQ);refine w4 (h₀:=X.base) I.ok.mod.kin hk (thn (ha pos pins s σ H _ I h) fun us s1 ⟨vs,H1,I1,r,q⟩=>⟨I1.kIn,?_⟩) he oJ;have r2:ZX (vs++oY) (us++ds):=r.append hd;have hl:(us++ds).length=ps.length:=by rw[<-r2.length];exact F.len _ _ _ _ _ q
 refine rN (rT (F.run eh X.A X.stack s1 H1 ⟨us,[]⟩ (us++ds) (vs++oY) Q E hA hr I1.env0 (hb s1 us I1.kIn hl) r2 q) fun r s' hq=>?_);cases r with
 | error ev=>exact absurd hq (by intro z;exact z.elim)
 | ok fl=>
  cases fl with
  | ret u=>exact I1.after hq
  | next=>exact uj hq
  | brk=>exact uj hq
  | cont=>exact uj hq
end
variable{x:Str}{f:Addr}{fd:uC}{ps:List Str}{k:Nat}
theorem Fun.okV {K:yS}{mg:Str->Option uT}{base:Heap}{qual:Str}{st:Stmt}{N:List Str}(F:Fun K x qual st f fd)(S:ZT N ps (Z2 st))(len:∀ eh vs H Q E,sp eh vs H Q E->vs.length=ps.length)
  (oS:∀ (eh:Addr) (pK:uT) (A:uq) (outer:List Env) (s:uS) (H:Hp) (vs:List V) (Q:VK) (E:XK),YD k (A.deeper (rC qual (Z2 st) s.heap.objs.size f pK))->A.handled=some (.ref eh)->sp eh vs H Q E->
   ∃ t,PSs (cxU P w K mg base N qual (Z2 st) f pK A outer s H) (Zi st) t/\t { nx:=fun _ H'=>Q .non H',rt:=Q } (start N vs) H):Ri P w K mg base (k+1) f fd ps sp:=by
 obtain⟨oc,od,kV,doc,pm,an,pK,ct,oR,rfl,lk,oP⟩:=F.ex;refine⟨len,fun eh A outer s H args us vs Q E hA hr e0 hb r ou=>?_⟩;have hl:=len _ _ _ _ _ ou;have KX:K.In s.heap:=e0.mod.kin.keeps fun b o e=>(e0.bs b o e).1;have lim:s.heap.NoLimit:=e0.mod.nolimit.keeps fun b o e=>(e0.bs b o e).1;have j0:∀ y∈ps.zip us,(Z2 st).names.lookup y.1=some .local\/((Z2 st).names.lookup y.1=some .cell/\((cellsFrom (s.heap.objs.size+1) (Z2 st).names []).lookup y.1).isSome=true):=fun ⟨n,v⟩ hy=>by
  rcases S.par n (vt hy).1 with q|q;exact .inl q;exact .inr ⟨q,vV _ _ _ (.inl q)⟩
 refine codeAny_call_function hr.depth (KX _ _ lk) rfl S.co S.gen rfl (PySem.W.codeRec_of KX oP) (hb _ _ _ _ ?_);refine wpAny_newFunctionEnv_cells S.kind j0 fun env he s1 z=>?_;subst he;refine⟨lim.keeps z.toInCall.keep,codeAny_func ?_⟩;obtain⟨t,ht,hq⟩:=oS eh pK A outer s H vs Q E (hr.deeper _) hA ou;have I0:Inv (Zb CX0 P w K mg base N qual (Z2 st) f pK { A with handled:=none } outer s H E0) [] (start N vs) H s1:=Nq S rfl ⟨e0.frames,e0.mod,e0.bs,e0.bsz,e0.funs,e0.frf,e0.hok,e0.bare⟩ hl r z;have I:Inv (cxU P w K mg base N qual (Z2 st) f pK A outer s H) [] (start N vs) H s1:=
  ⟨⟨I0.ok.mod,I0.ok.kind,I0.ok.glob,I0.ok.blt,I0.ok.above,I0.ok.inj,I0.ok.has,I0.ok.cab,fun z=>(nomatch z),I0.ok.frames,I0.ok.stk,I0.ok.exf,I0.ok.bs,I0.ok.bsz,I0.ok.noex,I0.ok.exfs,I0.ok.funs,I0.ok.frf⟩,I0.os,I0.bare,I0.base,I0.loc,I0.cell,I0.free,I0.freeC,I0.pin,I0.hok,I0.len⟩
 refine uA (ht [] s1 (start N vs) H _ I hq) (fun fl s' hs=>?_) fun e s' hs=>hs.elim;have fin:∀ {σ':St} {H':Hp} {v:V} {u:uT},Inv (cxU P w K mg base N qual (Z2 st) f pK A outer s H) [] σ' H' s'->ZS v u->Q v H'->CE outer P w H s Q u s':=
  fun {σ' H' v u} J rv q=>⟨v,H',J.os,J.bare,J.base,J.hok,rv,q⟩
 cases fl with
 | ret u=>
  obtain⟨v,σ',H',J,rv,q⟩:=hs;exact fin J rv q
 | next=>
  obtain⟨σ',H',J,q⟩:=hs;exact fin (v:=V.non) (u:=uk) J rfl q
 | brk=>
  obtain⟨_,_,_,q⟩:=hs;exact uj q
 | cont=>
  obtain⟨_,_,_,q⟩:=hs;exact uj q
end L2
namespace Sq
theorem X5 {α:Type}[DecidableEq α]:∀ (l l':List α),l.Nodup->(∀ x∈l,x∈l')->l.length<=l'.length
 | [],_,_,_=>xY _
 | a::l,l',nd,h=>by
  have gJ:=wU.mp nd;have ha:a∈l':=h a xS;have:=X5 l (l'.erase a) gJ.2 fun x hx=>by
   have pC:x≠a:=fun e=>gJ.1 (e ▸ hx);exact (List.mem_erase_of_ne pC).mpr (h x (yx _ hx))
  rw[List.length_erase_of_mem ha]at this;have:=List.length_pos_of_mem ha;simp only[yi];lia
theorem full {α:Type}[DecidableEq α]{l l':List α}(nd:l.Nodup)(h:∀ x∈l,x∈l')(hl:l'.length<=l.length):∀ x∈l',x∈l:=fun x hx=>by
 refine tR fun hn=>?_;have h1:(x::l).Nodup:=wU.mpr ⟨hn,nd⟩;have h2:=X5 (x::l) l' h1 fun y hy=>by
  rcases yl.mp hy with rfl|hy;exact hx;exact h y hy
 simp only[yi]at h2;lia
variable{i:Nat}
theorem KO {α:Type}{l:List α}(nd:l.Nodup){j:Nat}(hi:i<l.length)(hj:j<l.length)(e:l[i]=l[j]):i=j:=by
 have h:=wX.mp nd;rcases u0 i j with c|c|c;exact absurd e (h i j hi hj c);exact c;exact absurd e.symm (h j i hj hi c)
structure Row (n:Nat)(r:List Nat):Prop where
 len:r.length=n
 nd:r.Nodup
 lt:∀ x∈r,x<n
noncomputable abbrev nx (r:List Nat)(x:Nat):Nat:=r.getD x 0
variable{x:Nat}
section
variable {n:Nat}{r:List Nat}
theorem Row.get (h:Row n r)(hi:i<n):r[i]?=some (nx r i):=by
 have:i<r.length:=by rw[h.len];exact hi
 simp[nx,vL,yR this]
theorem Row.mem (h:Row n r)(hi:i<n):nx r i∈r:=yA (h.get hi)
theorem Row.nlt (h:Row n r)(hi:i<n):nx r i<n:=h.lt _ (h.mem hi)
theorem Row.has (h:Row n r)(hx:x<n):x∈r:=by
 refine full h.nd (l':=yI n) (fun y hy=>yL.mpr (h.lt y hy)) (by simp[h.len]) x (yL.mpr hx)
theorem Row.inj (h:Row n r){j:Nat}(hi:i<n)(hj:j<n)(e:nx r i=nx r j):i=j:=by
 have h1:i<r.length:=by rw[h.len];exact hi
 have h2:j<r.length:=by rw[h.len];exact hj
 have e':r[i]=r[j]:=by simpa [nx,vL,yR h1,yR h2] using e
 exact KO h.nd h1 h2 e'
theorem Row.idx_lt (h:Row n r)(hx:x<n):r.idxOf x<n:=by
 have:=wz (h.has hx);rwa [h.len]at this
theorem Row.nx_idx (h:Row n r)(hx:x<n):nx r (r.idxOf x)=x:=by
 have h1:=wz (h.has hx);simp[nx,vL,yR h1]
theorem Row.idx_nx (h:Row n r)(hi:i<n):r.idxOf (nx r i)=i:=
 h.inj (h.idx_lt (h.nlt hi)) hi (h.nx_idx (h.nlt hi))
end
noncomputable def back (r:List Nat):List Nat:=(yI r.length).map fun x=>r.idxOf x
theorem UF (r:List Nat):(back r).length=r.length:=by simp[back]
variable{n:Nat}{r:List Nat}
theorem X2 (h:Row n r)(hx:x<n):nx (back r) x=r.idxOf x:=by
 have:x<r.length:=by rw[h.len];exact hx
 simp[nx,back,vL,this]
theorem Row.back {n:Nat}{r:List Nat}(h:Row n r):Row n (back r) where
 len:=by rw[UF,h.len]
 nd:=by
  refine wQ.mpr (qA (fun {a b} ha hb pC e=>pC ?_) (vG (n:=r.length)));rw[h.len]at ha hb;have ha:=yL.mp ha;have hb:=yL.mp hb;rw[<-h.nx_idx ha,e,h.nx_idx hb]
 lt:=fun x hx=>by
  obtain⟨y,hy,rfl⟩:=yE.mp hx;rw[h.len]at hy;exact h.idx_lt (yL.mp hy)
def QZ (n:Nat)(r u:List Nat)(T:Nat->Prop):Prop:=∀ x,x<n->T x->T (nx r x)/\T (nx u x)
structure ZW (n:Nat)(r u:List Nat):Prop where
 pos:1<=n
 most:n<=36
 row:Row n r
 col:Row n u
 conn:∀ T:Nat->Prop,T 0->QZ n r u T->∀ x,x<n->T x
structure Met (n:Nat)(r u:List Nat)(first:Nat)(M:List Nat)(k:Nat):Prop where
 nd:M.Nodup
 hd:first∈M
 lt:∀ x∈M,x<n
 kle:k<=M.length
 shut:∀ i x,i<k->M[i]?=some x->nx r x∈M/\nx u x∈M
 least:∀ T:Nat->Prop,T first->QZ n r u T->∀ x∈M,T x
variable{u M:List Nat}{first k:Nat}
theorem Met.len (h:Met n r u first M k):M.length<=n:=by
 have:=X5 M (yI n) h.nd fun x hx=>yL.mpr (h.lt x hx);simpa using this
theorem Met.start (h:first<n):Met n r u first [first] 0 where
 nd:=by simp
 hd:=by simp
 lt:=fun x hx=>by rw[yH.mp hx];exact h
 kle:=xY _
 shut:=fun i x hi=>absurd hi (xM _)
 least:=fun T h0 _ x hx=>by rw[yH.mp hx];exact h0
noncomputable def put (M:List Nat)(y:Nat):List Nat:=if y∈M then M else M++[y]
variable{y:Nat}
theorem Yi :x∈put M y↔x∈M\/x=y:=by
 unfold put;split
 ·rename_i h;exact⟨.inl,fun q=>q.elim id fun e=>e ▸ h⟩
 simp
theorem Uh (h:M[i]?=some x):(put M y)[i]?=some x:=by
 unfold put;split;exact h;rw[yq (yP.mp h).1];exact h
theorem LF :M.length<=(put M y).length:=by
 unfold put;split<;>simp
theorem Lc (h:M.Nodup):(put M y).Nodup:=by
 unfold put;split;exact h
 ·rename_i hy;exact xw.mpr ⟨h,by simp,fun a ha b hb e=>hy (by rw[yH.mp hb]at e;exact e ▸ ha)⟩
theorem Met.step (h:Met n r u first M k)(hr:Row n r)(hu:Row n u)(hx:M[k]?=some x) :
  Met n r u first (put (put M (nx r x)) (nx u x)) (k+1) where
 nd:=Lc (Lc h.nd)
 hd:=Yi.mpr (.inl (Yi.mpr (.inl h.hd)))
 lt:=fun y hy=>by
  have j9:=h.lt x (yA hx);rcases Yi.mp hy with hy|rfl;rcases Yi.mp hy with hy|rfl;exact h.lt y hy;exact hr.nlt j9;exact hu.nlt j9
 kle:=by
  have:=(yP.mp hx).1;have h1:=LF (M:=M) (y:=nx r x);have h2:=LF (M:=put M (nx r x)) (y:=nx u x);lia
 shut:=fun i y hi hy=>by
  have hk:=(yP.mp hx).1;have i4:i<M.length:=by lia
  have e:M[i]?=some M[i]:=yR i4;have e2:=Uh (y:=nx u x) (Uh (y:=nx r x) e);rw[hy]at e2;have e3:y=M[i]:=uz.inj e2;rw[<-e3]at e;rcases yb i k with pJ|jZ;obtain⟨a,b⟩:=h.shut i y pJ e;exact⟨Yi.mpr (.inl (Yi.mpr (.inl a))),Yi.mpr (.inl (Yi.mpr (.inl b)))⟩;have:i=k:=by lia
  subst this;rw[hx]at e;cases e;exact⟨Yi.mpr (.inl (Yi.mpr (.inr Z))),Yi.mpr (.inr Z)⟩
 least:=fun T h0 hs y hy=>by
  have hxM:=yA hx;have j9:=h.lt x hxM;have hT:=h.least T h0 hs x hxM;rcases Yi.mp hy with hy|rfl;rcases Yi.mp hy with hy|rfl;exact h.least T h0 hs y hy;exact (hs x j9 hT).1;exact (hs x j9 hT).2
structure Pt (n:Nat)(r u:List Nat)(first:Nat)(M:List Nat):Prop where
 nd:M.Nodup
 hd:first∈M
 lt:∀ x∈M,x<n
 shut:∀ x∈M,nx r x∈M/\nx u x∈M
 least:∀ T:Nat->Prop,T first->QZ n r u T->∀ x∈M,T x
theorem Met.all (h:Met n r u first M k)(hk:M.length<=k):Pt n r u first M where
 nd:=h.nd
 hd:=h.hd
 lt:=h.lt
 shut:=fun x hx=>by
  obtain⟨i,hi,e⟩:=yc.mp hx;exact h.shut i x (by lia) (by rw[yR hi,e])
 least:=h.least
theorem QW:∀ {l l':List Nat},l.Perm l'->l.Pairwise (·<=·)->l'.Pairwise (·<=·)->l=l'
 | [],l',p,_,_=>(List.nil_perm.mp p).symm
 | a::l,[],p,_,_=>absurd p.length_eq (by simp)
 | a::l,b::l',p,h,h'=>by
  have ha:=vc.mp h;have hb:=vc.mp h';have e:a=b:=by
   have h1:a∈b::l':=p.mem_iff.mp xS;have h2:b∈a::l:=p.mem_iff.mpr xS;rcases yl.mp h1 with e|h1;exact e;rcases yl.mp h2 with e|h2;exact e.symm;have:=hb.1 a h1;have:=ha.1 b h2;lia
  subst e;rw[QW (List.Perm.cons_inv p) ha.2 hb.2]
theorem IU (n:Nat):(yI n).Pairwise (·<=·):=List.Pairwise.imp (fun h=>wK h) vS
noncomputable def rw4 (r u:List Nat)(c:Nat):List Nat:=match c with
 | 0=>r
 | 1=>back r
 | 2=>u
 | _=>back u
theorem PX (hr:Row n r)(hu:Row n u)(c:Nat):Row n (rw4 r u c):=by
 unfold rw4;split;exact hr;exact hr.back;exact hu;exact hu.back
noncomputable def go (r u:List Nat)(x:Nat)(p:List Nat):Nat:=p.foldl (fun x c=>nx (rw4 r u c) x) x
theorem D5 (r u:List Nat)(x:Nat)(p:List Nat)(c:Nat):go r u x (p++[c])=nx (rw4 r u c) (go r u x p):=by simp[go]
structure Pth (n:Nat)(r u:List Nat)(first:Nat)(F:List Nat)(P:List (List Nat))(k j:Nat):Prop where
 nd:F.Nodup
 hd:first∈F
 lt:∀ x∈F,x<n
 len:P.length=F.length
 kle:k<=F.length
 shut:∀ i x,i<k->F[i]?=some x->∀ c,c<4->nx (rw4 r u c) x∈F
 part:∀ x,F[k]?=some x->∀ c,c<j->nx (rw4 r u c) x∈F
 jz:j=0\/k<F.length
 ok:∀ i x p,F[i]?=some x->P[i]?=some p->go r u first p=x/\p.length<=i/\∀ c∈p,c<4
variable {n:Nat}{r u:List Nat}{first:Nat}{F:List Nat}{P:List (List Nat)}{k j:Nat}
theorem Pth.start (h:first<n):Pth n r u first [first] [[]] 0 0 where
 nd:=by simp
 hd:=by simp
 lt:=fun x hx=>by rw[yH.mp hx];exact h
 len:=rfl
 kle:=xY _
 shut:=fun i x hi=>absurd hi (xM _)
 part:=fun x _ c hc=>absurd hc (xM _)
 jz:=.inl rfl
 ok:=fun i x p hx hp=>by
  cases i with
  | zero=>simp at hx hp;subst hx hp;simp[go]
  | succ i=>simp at hx
theorem Pth.flen (h:Pth n r u first F P k j):F.length<=n:=by
 have:=X5 F (yI n) h.nd fun x hx=>yL.mpr (h.lt x hx);simpa using this
theorem Pth.old (h:Pth n r u first F P k j)(hx:F[k]?=some x)(hm:nx (rw4 r u j) x∈F):Pth n r u first F P k (j+1):=
 { h with
  part:=fun y hy c hc=>by
   rw[hx]at hy;cases hy
   rcases yb c j with q|q
   exact h.part x hx c q
   have:c=j:=by lia
   subst this;exact hm
  jz:=.inr (yP.mp hx).1 }
theorem Pth.new {p:List Nat}(h:Pth n r u first F P k j)(hr:Row n r)(hu:Row n u)(hj:j<4)(hx:F[k]?=some x)(hp:P[k]?=some p)(hm:nx (rw4 r u j) x∉F) :
  Pth n r u first (F++[nx (rw4 r u j) x]) (P++[p++[j]]) k (j+1):=by
 have hk:=(yP.mp hx).1;have old:∀ i y,i<=k->(F++[nx (rw4 r u j) x])[i]?=some y->F[i]?=some y:=fun i y hi hy=>by
  rwa [yq (by lia)]at hy
 refine⟨?_,by simp[h.hd],?_,by simp[h.len],by simp;lia,?_,?_,.inr (by simp;lia),?_⟩;exact xw.mpr ⟨h.nd,by simp,fun a ha b hb e=>hm (by rw[yH.mp hb]at e;exact e ▸ ha)⟩;intro y hy;rcases yo.mp hy with hy|hy;exact h.lt y hy;rw[yH.mp hy];exact (PX hr hu j).nlt (h.lt x (yA hx));intro i y hi hy c hc;exact xP _ (h.shut i y hi (old i y (by lia) hy) c hc);intro y hy c hc;have mI:=old k y (yO _) hy;rw[hx]at mI;cases mI;rcases yb c j with q|q;exact xP _ (h.part x hx c q);have:c=j:=by lia
 subst this;simp;intro i y q hy hq;rcases u0 i F.length with c|c|c;rw[yq c]at hy;rw[yq (by rw[h.len];exact c)]at hq;exact h.ok i y q hy hq;subst c;rw[xX (yO _)]at hy;rw[xX (by rw[h.len];exact yO _)]at hq;simp[h.len]at hy hq;subst hy hq;obtain⟨a,b,d⟩:=h.ok k x p hx hp;refine⟨by rw[D5,a];simp[nx],by simp;lia,fun c hc=>?_⟩;rcases yo.mp hc with hc|hc;exact d c hc;rw[yH.mp hc];exact hj;rw[xO (by simp;lia)]at hy;cases hy
theorem Pth.next (h:Pth n r u first F P k 4)(hx:F[k]?=some x):Pth n r u first F P (k+1) 0:=
 { h with
  kle:=(yP.mp hx).1
  shut:=fun i y hi hy c hc=>by
   rcases yb i k with q|q
   exact h.shut i y q hy c hc
   have:i=k:=by lia
   subst this;exact h.part y hy c hc
  part:=fun y _ c hc=>absurd hc (xM _)
  jz:=.inl rfl }
structure Vp (n:Nat)(r u:List Nat)(first:Nat)(F:List Nat)(P:List (List Nat)):Prop where
 nd:F.Nodup
 hd:first∈F
 lt:∀ x∈F,x<n
 len:P.length=F.length
 shut:∀ x∈F,∀ c,c<4->nx (rw4 r u c) x∈F
 ok:∀ i x p,F[i]?=some x->P[i]?=some p->go r u first p=x/\p.length<=i/\∀ c∈p,c<4
theorem Pth.all (h:Pth n r u first F P k j)(hk:F.length<=k):Vp n r u first F P:=
 { h with
  shut:=fun x hx c hc=>by
   obtain⟨i,hi,e⟩:=yc.mp hx
   exact h.shut i x (by lia) (by rw[yR hi,e]) c hc }
end Sq
namespace Sq
open PySem
noncomputable def sg (k:Nat):Nat:=if k<10 then 48+k else 87+k
noncomputable def txt (l:List Nat):Str:=⟨l.toArray⟩
theorem E7:(uU "0123456789abcdefghijklmnopqrstuvwxyz")=txt ((yI 36).map sg):=by decide +kernel
theorem ZD (l:List Nat):(txt l).length=l.length:=by simp[txt,Str.length]
theorem Yh (a b:List Nat):txt a++txt b=txt (a++b):=Str.ext' (by rw[Str.cps_append];simp[txt])
theorem Xj (l:List Nat):(txt l).cps.toList=l:=by simp[txt]
theorem RP (z:Str):txt z.cps.toList=z:=Str.ext' (by simp[txt])
theorem Wj {a b:List Nat}(h:txt a=txt b):a=b:=by rw[<-Xj a,h,Xj]
theorem Dv (c:Nat):(⟨#[c]⟩:Str)=txt [c]:=rfl
theorem Wi (l:List Nat)(i:Nat):(txt l).cps[i]?=l[i]?:=by simp[txt]
theorem QB:(uU "")=txt []:=by decide +kernel
theorem Wk:(uU " ")=txt [32]:=by decide +kernel
theorem Ir:∀ l:List Nat,Txt.join (txt []) (l.map fun c=>txt [c])=txt l:=fun l=>by
 show Builtin.Str.glued _ _=_;rw[StrLaws.glued_eq_join]
 induction l with
 | nil=>rfl
 | cons c l ih=>cases l with
  | nil=>rfl
  | cons d l=>
   show txt [c]++txt []++Str.join (txt []) ((d::l).map fun c=>txt [c])=_;rw[ih,Yh,Yh];rfl
noncomputable def YS (c:Nat):List (List Nat)->List Nat
 | []=>[]
 | [x]=>x
 | x::y::r=>x++c::YS c (y::r)
theorem Mw (c:Nat):∀ ps:List Str,(Str.join (txt [c]) ps).cps.toList=YS c (ps.map (·.cps.toList))
 | []=>rfl
 | [x]=>rfl
 | x::y::r=>by
  show (x++txt [c]++Str.join (txt [c]) (y::r)).cps.toList=_;rw[Str.cps_append,Str.cps_append,Array.toList_append,Array.toList_append,Mw c (y::r)];simp[YS,txt]
theorem N1 {c:Nat}:∀ {x y A B:List Nat},c∉x->c∉y->x++c::A=y++c::B->x=y/\A=B
 | [],[],A,B,_,_,h=>⟨rfl,by simpa using h⟩
 | [],b::y,A,B,_,hy,h=>by
  have:c=b:=by simpa using (qd.inj h).1
  exact absurd (by simp[this]) hy
 | a::x,[],A,B,hx,_,h=>by
  have:a=c:=by simpa using (qd.inj h).1
  exact absurd (by simp[this]) hx
 | a::x,b::y,A,B,hx,hy,h=>by
  obtain⟨e1,e2⟩:=qd.inj h;obtain⟨q1,q2⟩:=N1 (fun z=>hx (yx _ z)) (fun z=>hy (yx _ z)) e2;exact⟨by rw[e1,q1],q2⟩
theorem NL {c:Nat}:∀ {ps qs:List (List Nat)},ps≠[]->qs≠[]->(∀ p∈ps,c∉p)->(∀ p∈qs,c∉p)->YS c ps=YS c qs->ps=qs
 | [],_,h,_,_,_,_=>absurd rfl h
 | _::_,[],_,h,_,_,_=>absurd rfl h
 | [x],[y],_,_,_,_,e=>by show [x]=[y];rw[show x=y from e]
 | [x],y::y2::r,_,_,hp,_,e=>by
  have e:x=y++c::YS c (y2::r):=e;exact absurd (by rw[e];simp) (hp x (by simp))
 | x::x2::r,[y],_,_,_,hq,e=>by
  have e:x++c::YS c (x2::r)=y:=e;exact absurd (by rw[<-e];simp) (hq y (by simp))
 | x::x2::r,y::y2::r',_,_,hp,hq,e=>by
  have e:x++c::YS c (x2::r)=y++c::YS c (y2::r'):=e;obtain⟨e1,e2⟩:=N1 (hp x (by simp)) (hq y (by simp)) e;rw[e1,NL (by simp) (by simp) (fun p h=>hp p (yx _ h)) (fun p h=>hq p (yx _ h)) e2]
theorem MX {c:Nat}{z:List Nat}{qs:List (List Nat)}(h0:qs≠[])(hq:∀ p∈qs,c∉p)(e:YS c qs=z):rM (txt z) (txt [c])=qs.map txt:=by
 have h1:=StrLaws.join_split (txt z) (txt [c]);have h2:=StrLaws.split_free (txt z) c;have h3:1<=(rM (txt z) (txt [c])).length:=PyProof.Rows.split_pos _ _;have h4:=tX (fun s:Str=>s.cps.toList) h1;rw[Mw,Xj]at h4;have h5:(rM (txt z) (txt [c])).map (·.cps.toList)=qs:=NL (by intro q;rw[List.map_eq_nil_iff]at q;rw[q]at h3;simp at h3) h0 (fun p hp=>by
  obtain⟨s,hs,rfl⟩:=yE.mp hp
  exact h2 s hs) hq (h4.trans e.symm)
 rw[<-h5,xl];have:(txt ∘ fun s:Str=>s.cps.toList)=id:=funext RP;rw[this,List.map_id]
theorem B8 {a b:Nat}(h:sg a=sg b):a=b:=by unfold sg at h;split at h<;>split at h<;>lia
theorem M9:∀ k∈yI 36,ui (txt ((yI 36).map sg)) (txt [sg k]) 0 36 1=[k]:=by decide +kernel
theorem Hf:(txt ((yI 36).map sg)).length=36:=by decide +kernel
theorem GA {k:Nat}(h:k<36):(txt ((yI 36).map sg)).cps[k]?=some (sg k):=by
 rw[Wi,yw,wH h];rfl
noncomputable def ZA (r:List Nat):List Nat:=r.map sg
theorem YB (r:List Nat):(ZA r).length=r.length:=by simp[ZA]
end Sq
namespace L2
open PySem PySem.Spec PyProof.Rows Sq
end L2
namespace L2
open PySem PySem.Spec PyProof.Rows
section
variable {X:Cx}
def DV:V->List V->Hp->VK->Prop:=fun x vs H Q=>∃ z y,x=.str z/\vs=[.str y]/\Q (.bl (Txt.startswith z y)) H
theorem Hu:MtM X "str.startswith" DV:=by
 intro pins s σ H x vs v us Q I rx rv h;obtain⟨z,y,rfl,rfl,q⟩:=h;obtain⟨t,rfl⟩:=rx;obtain⟨u,rfl,t',rfl⟩:=rv.one;exact SC.startswith ⟨.bl _,H,I,rfl,q⟩
theorem Jh:Y7 X (.type "int") (fun xs H Q=>∃ (z:Str) (n:Int),xs=[.str z]/\intText? z=some n/\z.length<=640/\Q (.int n) H):=by
 intro pins s σ H xs us Q I r h;obtain⟨z,n,rfl,hn,hz,q⟩:=h;obtain⟨u,rfl,t,rfl⟩:=YX r;exact PySem.W.KIN.call_text hn hz ⟨.int n,H,I.tok _,⟨_,rfl⟩,q⟩
end
def TTs (K:yS)(a:Addr)(zs:List Str):Prop:=∃ (o:Obj) (pL:Array uT) (n:Nat),K.lookup a=some o/\o.cls=.type "tuple"/\o.data=.seq pL n/\pL.size<=uR/\ZX (zs.map V.str) pL.toList
variable{K:yS}{a:Addr}
theorem TTs.sq {zs:List Str}(h:TTs K a zs)(H:Hp):SqT K H a (zs.map V.str):=.inr h
variable{od:Option Addr}{n:Nat}{sl:Array (Option uT)}
theorem tts0 (l:K.lookup a=some ⟨.type "tuple",od,.seq #[] n,sl⟩):TTs K a []:=⟨_,_,_,l,rfl,rfl,(by show 0<=uR;decide),.nil⟩
variable{z1:Str}{t1:Tok}
theorem tts1 (l:K.lookup a=some ⟨.type "tuple",od,.seq #[.str z1 t1] n,sl⟩):TTs K a [z1]:=⟨_,_,_,l,rfl,rfl,(by show 1<=uR;decide),.cons ⟨_,rfl⟩ .nil⟩
theorem tts2 {z2:Str}{t2:Tok}(l:K.lookup a=some ⟨.type "tuple",od,.seq #[.str z1 t1,.str z2 t2] n,sl⟩):TTs K a [z1,z2]:=⟨_,_,_,l,rfl,rfl,(by show 2<=uR;decide),.cons ⟨_,rfl⟩ (.cons ⟨_,rfl⟩ .nil)⟩
theorem tts4 {z2 z3 z4:Str}{t2 t3 t4:Tok}(l:K.lookup a=some ⟨.type "tuple",od,.seq #[.str z1 t1,.str z2 t2,.str z3 t3,.str z4 t4] n,sl⟩):TTs K a [z1,z2,z3,z4]:=⟨_,_,_,l,rfl,rfl,(by show 4<=uR;decide),.cons ⟨_,rfl⟩ (.cons ⟨_,rfl⟩ (.cons ⟨_,rfl⟩ (.cons ⟨_,rfl⟩ .nil)))⟩
theorem tts6 {z2 z3 z4 z5 z6:Str}{t2 t3 t4 t5 t6:Tok}(l:K.lookup a=some ⟨.type "tuple",od,.seq #[.str z1 t1,.str z2 t2,.str z3 t3,.str z4 t4,.str z5 t5,.str z6 t6] n,sl⟩):TTs K a [z1,z2,z3,z4,z5,z6]:=⟨_,_,_,l,rfl,rfl,(by show 6<=uR;decide),.cons ⟨_,rfl⟩ (.cons ⟨_,rfl⟩ (.cons ⟨_,rfl⟩ (.cons ⟨_,rfl⟩ (.cons ⟨_,rfl⟩ (.cons ⟨_,rfl⟩ .nil)))))⟩
inductive KvL (w:uw):List qF->List (Key×uT)->Prop
 | nil:KvL w [] []
 | cons {x:Str} {t:Tok} {v:uT} {h:Int} {es:List qF} {vs:List (Key×uT)} (e:h=sM w x) (r:KvL w es vs):KvL w (⟨h,.str x t,v⟩::es) ((uN x,v)::vs)
variable{P:uE}{w:uw}{es:List qF}{vs:List (Key×uT)}
theorem KvL.keys (k:KvL w es vs):∀ e∈es,∃ key,(Zt P w).is key e.key=true/\e.hash=(Zt P w).hash key:=by
 induction k with
 | nil=>intro e he;cases he
 | @cons x t v h es vs e1 r ih=>
  intro e he;rcases yl.mp he with rfl|he;exact⟨uN x,Wn x t,e1⟩;exact ih e he
theorem KvL.pairs (k:KvL w es vs):Pairs (Zt P w) es vs:=by
 induction k with
 | nil=>exact .nil
 | @cons x t v h es vs e1 r ih=>exact .cons (Wn x t) rfl ih
theorem tdiL {es:Array qF}{ep:Nat}(hs:(a==tI)=false)
  (l:K.lookup a=some ⟨.type "dict",none,.dict es ep,#[]⟩) (k:KvL w es.toList vs) (nd:(vs.map (·.1)).Nodup):TDi P w K a vs:=
 ⟨hs,_,_,_,l,⟨rfl,rfl,rfl⟩,rfl,fun e he=>k.keys e (by simpa using he),k.pairs,nd⟩
theorem Ak {x1 x2 x3 x4 x5 x6 x7 x8 x9 av jd je aw az aA:Str}{t2 t3 t4 t5 t6 t7 t8 t9 t10 t11 t12 t13 t14 t15:Tok}{v1 v2 v3 v4 v5 v6 v7 v8 v9 v10 v11 gN gO gP v15:uT}{ep:Nat}{h1 h2 h3 h4 h5 h6 h7 h8 h9 eQ h11 h12 h13 h14 h15:Int}(hs:(a==tI)=false)
  (l:K.lookup a=some ⟨.type "dict",none,.dict #[⟨h1,.str x1 t1,v1⟩,⟨h2,.str x2 t2,v2⟩,⟨h3,.str x3 t3,v3⟩,⟨h4,.str x4 t4,v4⟩,⟨h5,.str x5 t5,v5⟩,⟨h6,.str x6 t6,v6⟩,⟨h7,.str x7 t7,v7⟩,⟨h8,.str x8 t8,v8⟩,⟨h9,.str x9 t9,v9⟩,⟨eQ,.str av t10,v10⟩,⟨h11,.str jd t11,v11⟩,⟨h12,.str je t12,gN⟩,⟨h13,.str aw t13,gO⟩,⟨h14,.str az t14,gP⟩,⟨h15,.str aA t15,v15⟩] ep,#[]⟩) (e1:h1=sM w x1) (e2:h2=sM w x2) (e3:h3=sM w x3) (e4:h4=sM w x4) (e5:h5=sM w x5) (e6:h6=sM w x6) (e7:h7=sM w x7) (e8:h8=sM w x8) (e9:h9=sM w x9) (e10:eQ=sM w av) (e11:h11=sM w jd) (e12:h12=sM w je) (e13:h13=sM w aw) (e14:h14=sM w az) (e15:h15=sM w aA)
  (nd:([uN x1,uN x2,uN x3,uN x4,uN x5,uN x6,uN x7,uN x8,uN x9,uN av,uN jd,uN je,uN aw,uN az,uN aA]:List Key).Nodup):TDi P w K a [(uN x1,v1),(uN x2,v2),(uN x3,v3),(uN x4,v4),(uN x5,v5),(uN x6,v6),(uN x7,v7),(uN x8,v8),(uN x9,v9),(uN av,v10),(uN jd,v11),(uN je,gN),(uN aw,gO),(uN az,gP),(uN aA,v15)]:=
 tdiL hs l (.cons e1 (.cons e2 (.cons e3 (.cons e4 (.cons e5 (.cons e6 (.cons e7 (.cons e8 (.cons e9 (.cons e10 (.cons e11 (.cons e12 (.cons e13 (.cons e14 (.cons e15 .nil))))))))))))))) nd
end L2
namespace Sq
open PySem
noncomputable def dg (m:Int):List Nat:=(uU (toString m)).cps.toList
theorem Pl (m:Int):txt (dg m)=uU (toString m):=RP _
noncomputable def fg (z:List Nat):List Nat:=if z.head?=some 45 then z.drop 1 else z
noncomputable def Rh:List Nat:=(yI 10).map (48 + ·)
noncomputable def O4:List (List Nat):=Rh.map fun a=>[a]
noncomputable def Pa:List (List Nat):=Rh.flatMap fun a=>O4.map fun l=>a::l
noncomputable def JQ:List (List Nat):=Rh.flatMap fun a=>Pa.map fun l=>a::l
noncomputable def RW (z:List Nat):Bool:=match intText? (txt z) with|some n=>decide (n.natAbs<=999)|none=>false
set_option maxHeartbeats 0 in
theorem DR:((O4++Pa++JQ).all fun z=>RW z&&RW (45::z))=true:=by decide +kernel
theorem VF {c:Nat}(h:48<=c/\c<=57):c∈Rh:=yE.mpr ⟨c-48,yL.mpr (by omega),by omega⟩
variable{z:List Nat}
theorem Ep (h1:1<=z.length)(h3:z.length<=3)(hf:∀ c∈z,48<=c/\c<=57):z∈O4++Pa++JQ:=by
 match z,h1,h3,hf with
 | [a],_,_,hf=>exact xP _ (xP _ (yE.mpr ⟨a,VF (hf a (by simp)),rfl⟩))
 | [a,b],_,_,hf=>exact xP _ (yr _ (wm.mpr ⟨a,VF (hf a (by simp)),yE.mpr ⟨[b],yE.mpr ⟨b,VF (hf b (by simp)),rfl⟩,rfl⟩⟩))
 | [a,b,c],_,_,hf=>exact yr _ (wm.mpr ⟨a,VF (hf a (by simp)),yE.mpr ⟨[b,c],wm.mpr ⟨b,VF (hf b (by simp)),yE.mpr ⟨[c],yE.mpr ⟨c,VF (hf c (by simp)),rfl⟩,rfl⟩⟩,rfl⟩⟩)
theorem Ea (z:List Nat):z=fg z\/z=45::fg z:=by
 unfold fg
 match z with
 | []=>exact .inl rfl
 | a::l=>
  by_cases h:a=45;subst h;exact .inr (by simp);exact .inl (by rw[uL];simpa using h)
theorem Lx (h1:1<=(fg z).length)(h3:(fg z).length<=3)(hf:∀ c∈fg z,48<=c/\c<=57):∃ n:Int,intText? (txt z)=some n/\n.natAbs<=999:=by
 have h:=yn.mp DR _ (Ep h1 h3 hf);rw[yy]at h;have:RW z=true:=by
  rcases Ea z with e|e;rw[e];exact h.1;rw[e];exact h.2
 unfold RW at this;split at this
 ·next n e=>exact⟨n,e,uF this⟩
 cases this
theorem DK:(uU "-")=txt [45]:=by decide +kernel
theorem IT (z:List Nat):Txt.startswith (txt z) (uU "-")=decide (z.head?=some 45):=by
 rw[DK];unfold Txt.startswith;rw[ZD,ZD]
 match z with
 | []=>simp
 | a::l=>
  have e:(txt (a::l)).cps.extract 0 (0+(txt [45]).length)=#[a]:=by
   apply Array.ext';rw[Array.toList_extract,Xj,ZD];simp
  have e2:Builtin.Str.subAt (txt (a::l)) (txt [45]) 0=(#[a] == #[45]):=by
   unfold Builtin.Str.subAt;rw[e];rfl
  rw[e2];by_cases h:a=45;subst h;simp;simp[h]
theorem Lo (h:1<=z.length):qu (txt z) (some 1) none=txt (z.drop 1):=by
 rw[StrLaws.sliceText_from ⟨by omega,by rw[Xj];omega⟩,Xj];have:(((z.length:Nat):Int)-1).toNat=z.length-1:=by omega
 rw[this];have e:(z.drop (1:Int).toNat).take (z.length-1)=z.drop 1:=vU (by simp);rw[e];rfl
noncomputable def dv (t b:Int):Int:=if b<0 then -((vQ t b:Nat):Int) else ((vQ t b:Nat):Int)
noncomputable def Yk (t b:Int):Int:=t.fdiv (dv t b)
noncomputable def YJ (t b:Int):Int:=b.fdiv (dv t b)
variable{t b:Int}
theorem Mh (h:b≠0):0<vQ t b:=Int.gcd_pos_of_ne_zero_right t h
theorem Cj (t b:Int):(dv t b).natAbs=vQ t b:=by unfold dv;split<;>omega
theorem Rv (h:b≠0):dv t b≠0:=by
 have:=Mh (t:=t) h;have:=Cj t b;omega
theorem FA (t b:Int):dv t b∣t:=by
 have:((vQ t b:Nat):Int)∣t:=Int.gcd_dvd_left t b;unfold dv;split;exact Int.neg_dvd.mpr this;exact this
theorem F7 (t b:Int):dv t b∣b:=by
 have:((vQ t b:Nat):Int)∣b:=Int.gcd_dvd_right t b;unfold dv;split;exact Int.neg_dvd.mpr this;exact this
theorem EH (t b:Int):Yk t b*dv t b=t:=Int.fdiv_mul_cancel (FA t b)
theorem Qn (t b:Int):YJ t b*dv t b=b:=Int.fdiv_mul_cancel (F7 t b)
theorem Jv {x k:Int}(h:0<k)(h2:0<x*k):0<x:=by
 rcases (show 0<x\/x<=0 by omega) with l|l;exact l;have:=Int.mul_le_mul_of_nonneg_right l (Int.le_of_lt h);rw[Int.zero_mul]at this;omega
theorem Ft (h:b≠0):0<YJ t b:=by
 have e:=Qn t b;have g:=Mh (t:=t) h;unfold dv at e;by_cases hb:b<0;rw[uK hb]at e;have:YJ t b*((vQ t b:Nat):Int)=-b:=by rw[Int.mul_neg]at e;omega
 exact Jv (k:=((vQ t b:Nat):Int)) (by omega) (by omega);rw[uL hb]at e;exact Jv (k:=((vQ t b:Nat):Int)) (by omega) (by omega)
theorem QQ {x d:Int}(h:d≠0):x.natAbs<=(x*d).natAbs:=by
 rw[Int.natAbs_mul];exact Nat.le_mul_of_pos_right _ (by omega)
theorem Ew (h:b≠0):(Yk t b).natAbs<=t.natAbs:=by
 have:=QQ (x:=Yk t b) (Rv (t:=t) h);rwa [EH]at this
theorem Dk (h:b≠0):(YJ t b).natAbs<=b.natAbs:=by
 have:=QQ (x:=YJ t b) (Rv (t:=t) h);rwa [Qn]at this
end Sq
namespace Sq
open PySem
theorem Vx {P:List Nat->Prop}(h0:P [])(hs:∀ z c,P z->P (z++[c]))(z:List Nat):P z:=by
 have:∀ y:List Nat,P y.reverse:=fun y=>by
  induction y with
  | nil=>exact h0
  | cons c y ih=>rw[List.reverse_cons];exact hs _ c ih
 rw[<-List.reverse_reverse z];exact this _
noncomputable def stw (ws:List (List Nat))(c:Nat):List (List Nat):=if c=32 then ws++[[]] else ws.dropLast++[ws.getLastD []++[c]]
noncomputable def spf (z:List Nat):List (List Nat):=z.foldl stw [[]]
theorem Sy (z:List Nat)(c:Nat):spf (z++[c])=stw (spf z) c:=by unfold spf;rw[wN];rfl
variable{ws:List (List Nat)}{c:Nat}
theorem By :stw ws c≠[]:=by unfold stw;split<;>simp
theorem Wb (z:List Nat):spf z≠[]:=by
 rcases vK z with rfl|⟨y,c,rfl⟩;decide;rw[List.concat_eq_append,Sy];exact By
theorem VL (h:ws≠[]):ws.dropLast++[ws.getLastD []]=ws:=by
 rcases vK ws with rfl|⟨y,c,rfl⟩;exact absurd rfl h;simp
theorem UR (d:Nat):∀ (ws:List (List Nat)) (w:List Nat),ws≠[]->YS d (ws++[w])=YS d ws++d::w
 | [],_,h=>absurd rfl h
 | [x],w,_=>rfl
 | x::y::r,w,_=>by
  show x++d::YS d (y::r++[w])=(x++d::YS d (y::r))++d::w;rw[UR d (y::r) w (by simp)];simp
theorem N7 (d c:Nat)(ws:List (List Nat))(w:List Nat):YS d (ws++[w++[c]])=YS d (ws++[w])++[c]:=by
 cases ws with
 | nil=>rfl
 | cons x ws=>rw[UR d (x::ws) _ (by simp),UR d (x::ws) _ (by simp)];simp
theorem F8:∀ z:List Nat,YS 32 (spf z)=z:=fun z=>by
 induction z using Vx with
 | h0=>rfl
 | hs z c ih=>
  rw[Sy];unfold stw;by_cases h:c=32;rw[uK h,UR 32 _ _ (Wb z),ih,h];rw[uL h,N7,VL (Wb z),ih]
theorem EV:∀ z:List Nat,∀ p∈spf z,32∉p:=fun z=>by
 induction z using Vx with
 | h0=>intro p hp;rw[show p=[] by simpa [spf] using hp];simp
 | hs z c ih=>
  intro p hp;rw[Sy]at hp;unfold stw at hp;by_cases h:c=32;rw[uK h]at hp;rcases yo.mp hp with g|g;exact ih p g;rw[yH.mp g];simp;rw[uL h]at hp;rcases yo.mp hp with g|g;exact ih p (wt _ g);rw[yH.mp g];intro hm;rcases yo.mp hm with g|g;exact ih (spf z |>.getLastD []) (by
   have:=VL (Wb z)
   rw[<-this];simp) g
  exact h (yH.mp g).symm
theorem Nz (z:List Nat):rM (txt z) (txt [32])=(spf z).map txt:=MX (Wb z) (EV z) (F8 z)
theorem QN:∀ (z:List Nat),(spf z).length<=z.length+1/\∀ p∈spf z,p.length<=z.length:=fun z=>by
 induction z using Vx with
 | h0=>refine⟨by decide,fun p hp=>?_⟩;rw[show p=[] by simpa [spf] using hp];simp
 | hs z c ih=>
  rw[Sy,yJ,xt];unfold stw;obtain⟨i1,i2⟩:=ih;by_cases h:c=32;rw[uK h];refine⟨by rw[yJ];simp only[yi,wR];lia,fun p hp=>?_⟩;rcases yo.mp hp with g|g;have:=i2 p g;lia;rw[yH.mp g];simp;rw[uL h];have hl:0<(spf z).length:=wI.mpr (Wb z);refine⟨by rw[yJ,vC];simp only[yi,wR];lia,fun p hp=>?_⟩;rcases yo.mp hp with g|g;have:=i2 p (wt _ g);lia;rw[yH.mp g,yJ,xt];have:=i2 (spf z |>.getLastD []) (by
    have:=VL (Wb z)
    rw[<-this];simp)
  lia
noncomputable def sgn (c:Nat):Int:=if c∈(yI 36).map sg then (((yI 36).map sg).idxOf c:Int) else -1
variable{k:Nat}
theorem BS (h:k<36):sgn (sg k)=(k:Int):=by
 unfold sgn;rw[uK (yE.mpr ⟨k,yL.mpr h,rfl⟩)];have:∀ k∈yI 36,((yI 36).map sg).idxOf (sg k)=k:=by decide
 rw[this k (yL.mpr h)]
theorem Kt (h:0<=sgn c):∃ k,k<36/\c=sg k/\sgn c=(k:Int):=by
 unfold sgn at h;by_cases m:c∈(yI 36).map sg;obtain⟨k,hk,e⟩:=yE.mp m;have hk:=yL.mp hk;exact⟨k,hk,e.symm,by rw[<-e];exact BS hk⟩;rw[uL m]at h;exact absurd h (by decide)
theorem MQ:∀ {w:List Nat},(∀ c∈w,0<=sgn c)->∃ r:List Nat,w=ZA r/\(∀ x∈r,x<36)/\w.map sgn=r.map fun (k:Nat)=>(k:Int)
 | [],_=>⟨[],rfl,by simp,rfl⟩
 | c::w,h=>by
  obtain⟨k,hk,e,es⟩:=Kt (h c (by simp));obtain⟨r,e1,e2,e3⟩:=MQ (w:=w) fun d hd=>h d (by simp[hd]);refine⟨k::r,by rw[e1,e];rfl,fun x hx=>?_,by rw[ye,ye,es,e3]⟩;rcases yl.mp hx with rfl|hx;exact hk;exact e2 x hx
noncomputable def stq (ws:List (List Nat))(c:Nat):List (List Nat):=if c=47 then ws++[[]] else ws.dropLast++[ws.getLastD []++[c]]
noncomputable def spq (z:List Nat):List (List Nat):=z.foldl stq [[]]
theorem SV (z:List Nat)(c:Nat):spq (z++[c])=stq (spq z) c:=by unfold spq;rw[wN];rfl
theorem BU :stq ws c≠[]:=by unfold stq;split<;>simp
theorem Wf (z:List Nat):spq z≠[]:=by
 rcases vK z with rfl|⟨y,c,rfl⟩;decide;rw[List.concat_eq_append,SV];exact BU
theorem E9:∀ z:List Nat,YS 47 (spq z)=z:=fun z=>by
 induction z using Vx with
 | h0=>rfl
 | hs z c ih=>
  rw[SV];unfold stq;by_cases h:c=47;rw[uK h,UR 47 _ _ (Wf z),ih,h];rw[uL h,N7,VL (Wf z),ih]
theorem Fx:∀ z:List Nat,∀ p∈spq z,47∉p:=fun z=>by
 induction z using Vx with
 | h0=>intro p hp;rw[show p=[] by simpa [spq] using hp];simp
 | hs z c ih=>
  intro p hp;rw[SV]at hp;unfold stq at hp;by_cases h:c=47;rw[uK h]at hp;rcases yo.mp hp with g|g;exact ih p g;rw[yH.mp g];simp;rw[uL h]at hp;rcases yo.mp hp with g|g;exact ih p (wt _ g);rw[yH.mp g];intro hm;rcases yo.mp hm with g|g;exact ih (spq z |>.getLastD []) (by
   have:=VL (Wf z)
   rw[<-this];simp) g
  exact h (yH.mp g).symm
theorem GY (z:List Nat):rM (txt z) (txt [47])=(spq z).map txt:=MX (Wf z) (Fx z) (E9 z)
theorem Hv:∀ (z:List Nat),(spq z).length<=z.length+1/\∀ p∈spq z,p.length<=z.length:=fun z=>by
 induction z using Vx with
 | h0=>refine⟨by decide,fun p hp=>?_⟩;rw[show p=[] by simpa [spq] using hp];simp
 | hs z c ih=>
  rw[SV,yJ,xt];unfold stq;obtain⟨i1,i2⟩:=ih;by_cases h:c=47;rw[uK h];refine⟨by rw[yJ];simp only[yi,wR];lia,fun p hp=>?_⟩;rcases yo.mp hp with g|g;have:=i2 p g;lia;rw[yH.mp g];simp;rw[uL h];have hl:0<(spq z).length:=wI.mpr (Wf z);refine⟨by rw[yJ,vC];simp only[yi,wR];lia,fun p hp=>?_⟩;rcases yo.mp hp with g|g;have:=i2 p (wt _ g);lia;rw[yH.mp g,yJ,xt];have:=i2 (spq z |>.getLastD []) (by
    have:=VL (Wf z)
    rw[<-this];simp)
  lia
theorem FX:(uU "/")=txt [47]:=by decide +kernel
variable{l:List Nat}{g:Nat->Nat}{i x:Nat}
theorem K8 (h:l[i]?=some x):nx (l.map g) i=g x:=by
 simp[nx,vL,h]
variable{n:Nat}
theorem LD {l':List Nat}(hl:l.length=n)(oF:l'.length=n)(h:∀ i,i<n->nx l i=nx l' i):l=l':=by
 refine List.ext_getElem (by lia) fun i h1 h2=>?_;have:=h i (by lia);simpa [nx,vL,yR h1,yR h2] using this
noncomputable def ren (r f:List Nat):List Nat:=(back f).map fun o=>nx f (nx r o)
theorem XD (r f:List Nat):(ren r f).length=f.length:=by simp[ren,UF]
section
variable {r f:List Nat}
theorem Hy (hf:Row n f):back (back f)=f:=by
 refine LD (n:=n) (by rw[UF,UF,hf.len]) hf.len fun i hi=>?_;rw[X2 hf.back hi];have e:nx (back f) (nx f i)=i:=by rw[X2 hf (hf.nlt hi)];exact hf.idx_nx hi
 exact hf.back.inj (hf.back.idx_lt hi) (hf.nlt hi) (by rw[hf.back.nx_idx hi,e])
theorem Vr (hf:Row n f)(hi:i<n):nx (back f) (nx f i)=i:=by rw[X2 hf (hf.nlt hi)];exact hf.idx_nx hi
theorem VE (hf:Row n f)(hi:i<n):nx f (nx (back f) i)=i:=by rw[X2 hf hi];exact hf.nx_idx hi
theorem T5 (hf:Row n f)(hi:i<n):nx (ren r f) i=nx f (nx r (nx (back f) i)):=K8 (hf.back.get hi)
theorem Vg (hf:Row n f)(hk:k<n):nx (ren r f) (nx f k)=nx f (nx r k):=by
 rw[T5 hf (hf.nlt hk),Vr hf hk]
theorem Po (hl:l.length=n)(lt:∀ i,i<n->nx l i<n)(inj:∀ i j,i<n->j<n->nx l i=nx l j->i=j):Row n l where
 len:=hl
 nd:=by
  refine wX.mpr fun i j hi hj gm e=>?_;have:=inj i j (by lia) (by lia) (by simp[nx,vL,yR hi,yR hj,e]);lia
 lt:=fun x hx=>by
  obtain⟨i,hi,e⟩:=yc.mp hx;have:=lt i (by lia);rwa [show nx l i=x from by simp[nx,vL,yR hi,e]]at this
theorem Ux (hr:Row n r)(hf:Row n f):Row n (ren r f):=by
 refine Po (by rw[XD,hf.len]) (fun i hi=>?_) (fun i j hi hj e=>?_);rw[T5 hf hi];exact hf.nlt (hr.nlt (hf.back.nlt hi));rw[T5 hf hi,T5 hf hj]at e;exact hf.back.inj hi hj (hr.inj (hf.back.nlt hi) (hf.back.nlt hj) (hf.inj (hr.nlt (hf.back.nlt hi)) (hr.nlt (hf.back.nlt hj)) e))
end
noncomputable def it (w:List Nat)(x:Nat):Nat->Nat
 | 0=>x
 | i+1=>nx w (it w x i)
structure Cyc (w:List Nat)(x:Nat)(M:List Nat):Prop where
 pos:1<=M.length
 is:M=(yI M.length).map (it w x)
 back:it w x M.length=x
 new:∀ i,1<=i->i<M.length->it w x i≠x
variable{w M:List Nat}
theorem Cyc.unique {M':List Nat}(h:Cyc w x M)(h':Cyc w x M'):M=M':=by
 have e:M.length=M'.length:=by
  rcases u0 M.length M'.length with c|c|c;exact absurd h.back (h'.new _ h.pos c);exact c;exact absurd h'.back (h.new _ h'.pos c)
 rw[h.is,h'.is,e]
variable{y:Nat}
theorem Y4 (pH:Row n w){x:Nat}(hx:x<n):∀ i,it w x i<n
 | 0=>hx
 | i+1=>pH.nlt (Y4 pH hx i)
theorem Np (pH:Row n w){x:Nat}(hx:x<n):∀ i j,it w x (i+j)=it w x i->it w x j=x
 | 0,j,h=>by simpa [it] using h
 | i+1,j,h=>by
  have e:it w x (i+1+j)=nx w (it w x (i+j)):=by rw[show i+1+j=(i+j)+1 from by lia];rfl
  rw[e]at h;exact Np pH hx i j (pH.inj (Y4 pH hx _) (Y4 pH hx _) h)
theorem MV (pH:Row n w)(hx:x<n)(h:∀ i,1<=i->i<k->it w x i≠x):((yI k).map (it w x)).Nodup:=by
 refine wQ.mpr (qA (R:=fun a b=>a<b) (fun {a b} ha hb bO e=>?_) vS);have hb:=yL.mp hb;have:=Np pH hx a (b-a) (by rw[show a+(b-a)=b from by lia];exact e.symm);exact h (b-a) (by lia) (by lia) this
theorem Kp (pH:Row n w)(hx:x<n)(h:∀ i,1<=i->i<k->it w x i≠x):k<=n:=by
 have:=X5 _ (yI n) (MV pH hx h) fun y hy=>by
  obtain⟨i,_,rfl⟩:=yE.mp hy;exact yL.mpr (Y4 pH hx i)
 simpa using this
theorem Cyc.nd (pH:Row n w)(hx:x<n)(h:Cyc w x M):M.Nodup:=by
 rw[h.is];exact MV pH hx h.new
theorem Cyc.get (h:Cyc w x M)(hi:i<M.length):M[i]?=some (it w x i):=by
 rw[h.is];simp[hi]
theorem Cyc.lt (pH:Row n w)(hx:x<n)(h:Cyc w x M):∀ y∈M,y<n:=fun y hy=>by
 rw[h.is]at hy;obtain⟨i,_,rfl⟩:=yE.mp hy;exact Y4 pH hx i
theorem Cyc.next (h:Cyc w x M)(hi:M[i]?=some y):M[(i+1)%M.length]?=some (nx w y):=by
 have hl:=(yP.mp hi).1;have e:y=it w x i:=by have:=h.get hl;rw[hi]at this;exact uz.inj this
 subst e;rcases yb (i+1) M.length with c|c;rw[Nat.mod_eq_of_lt c,h.get c];rfl;have:i+1=M.length:=by lia
 rw[this,Nat.mod_self,h.get h.pos];have hb:=h.back;rw[<-this]at hb;show some x=some (nx w (it w x i));rw[show nx w (it w x i)=it w x (i+1) from rfl,hb]
theorem Yg (x:Nat)(i:Nat):∀ j,it w x (i+j)=it w (it w x i) j
 | 0=>rfl
 | j+1=>by show nx w (it w x (i+j))=nx w (it w (it w x i) j);rw[Yg x i j]
noncomputable def per (n:Nat)(w:List Nat)(x:Nat):Nat:=((yI n).find? fun k=>decide (it w x (k+1)=x)).getD 0+1
noncomputable def cyc (n:Nat)(w:List Nat)(x:Nat):List Nat:=(yI (per n w x)).map (it w x)
noncomputable def Yl (n:Nat)(w:List Nat)(x:Nat):Bool:=decide (∀ y∈cyc n w x,x<=y)
noncomputable def Ye (n:Nat)(w:List Nat):List (List Nat):=((yI n).filter (Yl n w)).map (cyc n w)
theorem RH (pH:Row n w)(hx:x<n):it w x (per n w x)=x/\∀ i,1<=i->i<per n w x->it w x i≠x:=by
 unfold per;cases h:(yI n).find? fun k=>decide (it w x (k+1)=x) with
 | none=>
  have:=List.find?_eq_none.mp h;have:=Kp (k:=n+1) pH hx fun i h1 h2 e=>by
   refine this (i-1) (yL.mpr (by lia)) ?_;rw[show i-1+1=i from by lia];exact uO e
  lia
 | some k=>
  obtain⟨h1,as,bs,h2,h3⟩:=List.find?_eq_some_iff_append.mp h;refine⟨uF h1,fun i hi pJ e=>?_⟩;have pJ:i<k+1:=pJ;have hk:as.length=k:=by
   have hl:as.length<n:=by
    have:=tX wB h2;simp at this;lia
   have e1:(yI n)[as.length]?=some k:=(by rw[h2];simp);rw[wH hl]at e1;exact uz.inj e1
  have i4:i-1<as.length:=by lia
  have hl:as.length<=n:=by
   have:=tX wB h2;simp at this;lia
  have e2:as[i-1]?=some (i-1):=by
   have:(yI n)[i-1]?=as[i-1]?:=(by rw[h2,yq i4]);rw[<-this,wH (by lia)]
  have:=h3 (i-1) (yA e2);rw[show i-1+1=i from by lia,e]at this;simp at this
theorem R3 (n:Nat)(w:List Nat)(x:Nat):(cyc n w x).length=per n w x:=by simp[cyc]
theorem Xy (pH:Row n w)(hx:x<n):Cyc w x (cyc n w x):=by
 obtain⟨h1,h2⟩:=RH pH hx;refine⟨by rw[R3];unfold per;lia,by rw[R3];rfl,by rw[R3];exact h1,by rw[R3];exact h2⟩
theorem Cyc.eq (pH:Row n w)(hx:x<n)(h:Cyc w x M):M=cyc n w x:=h.unique (Xy pH hx)
theorem UE (pH:Row n w)(hx:x<n):(cyc n w x)[0]?=some x:=(Xy pH hx).get (Xy pH hx).pos
theorem RX (pH:Row n w){x:Nat}(hx:x<n):∀ i,it w x i∈cyc n w x
 | 0=>yA (UE pH hx)
 | i+1=>by
  obtain⟨j,hj,e⟩:=yc.mp (RX pH hx i);have:=(Xy pH hx).next (i:=j) (y:=it w x i) (by rw[yR hj,e]);exact yA this
theorem Ua (pH:Row n w)(h:y∈cyc n w x):∃ i,i<per n w x/\y=it w x i:=by
 obtain⟨i,hi,rfl⟩:=yE.mp h;exact⟨i,yL.mp hi,Z⟩
theorem PJ (pH:Row n w)(hx:x<n)(h:y∈cyc n w x):y<n:=(Xy pH hx).lt pH hx y h
theorem Da (pH:Row n w)(hx:x<n)(hi:i<=per n w x):it w (it w x i) (per n w x-i)=x:=by
 rw[<-Yg,show i+(per n w x-i)=per n w x from by lia];exact (RH pH hx).1
theorem Qw (pH:Row n w)(hx:x<n)(h:y∈cyc n w x):x∈cyc n w y:=by
 obtain⟨i,hi,rfl⟩:=Ua pH h;have:=RX pH (Y4 pH hx i) (per n w x-i);rwa [Da pH hx (wK hi)]at this
theorem QF (pH:Row n w){z:Nat}(hx:x<n)(h:y∈cyc n w x)(h':z∈cyc n w y):z∈cyc n w x:=by
 obtain⟨i,_,rfl⟩:=Ua pH h;obtain⟨j,_,rfl⟩:=Ua pH h';rw[<-Yg];exact RX pH hx _
theorem ME:∀ (l:List Nat),l≠[]->∃ m∈l,∀ y∈l,m<=y
 | [],h=>absurd rfl h
 | [a],_=>⟨a,by simp,by simp⟩
 | a::b::l,_=>by
  obtain⟨m,hm,h⟩:=ME (b::l) (by simp);rcases yb m a with c|c;refine⟨m,yx _ hm,fun y hy=>?_⟩;rcases yl.mp hy with e|hy;rw[e];lia;exact h y hy;refine⟨a,by simp,fun y hy=>?_⟩;rcases yl.mp hy with e|hy;rw[e];lia;have:=h y hy;lia
theorem UC :Yl n w x=true↔∀ y∈cyc n w x,x<=y:=uH
theorem FY (pH:Row n w)(hx:x<n):∃ l,l<n/\Yl n w l=true/\x∈cyc n w l:=by
 obtain⟨m,hm,h⟩:=ME (cyc n w x) (fun e=>by have:=UE pH hx;rw[e]at this;simp at this);have hmn:=PJ pH hx hm;exact⟨m,hmn,UC.mpr fun y hy=>h y (QF pH hx hm hy),Qw pH hx hm⟩
theorem IS (pH:Row n w){l l':Nat}(hl:l<n)(oF:l'<n)(h1:Yl n w l=true)(h2:Yl n w l'=true)(h:x∈cyc n w l)(h':x∈cyc n w l'):l=l':=by
 have a:=UC.mp h1 l' (QF pH hl h (Qw pH oF h'));have b:=UC.mp h2 l (QF pH oF h' (Qw pH hl h));lia
theorem IM (pH:Row n w):(Ye n w).flatten.Perm (yI n):=by
 refine (wx ?_ vG).mpr fun x=>?_;refine List.pairwise_flatten.mpr ⟨fun l hl=>?_,?_⟩;obtain⟨x,hx,rfl⟩:=yE.mp hl;have hx:=yL.mp (yk.mp hx).1;exact (Xy pH hx).nd pH hx;refine wQ.mpr ?_;have:((yI n).filter (Yl n w)).Pairwise (· < ·):=List.Pairwise.filter _ vS;refine this.imp_of_mem fun {a b} ha hb bO x hx y hy e=>?_;obtain⟨a1,a2⟩:=yk.mp ha;obtain⟨b1,b2⟩:=yk.mp hb;subst e;have:=IS pH (yL.mp a1) (yL.mp b1) a2 b2 hx hy;lia;constructor;intro h;obtain⟨l,hl,hx⟩:=List.mem_flatten.mp h;obtain⟨a,ha,rfl⟩:=yE.mp hl;exact yL.mpr (PJ pH (yL.mp (yk.mp ha).1) hx);intro h;obtain⟨l,h1,h2,h3⟩:=FY pH (yL.mp h);exact List.mem_flatten.mpr ⟨_,yE.mpr ⟨l,yk.mpr ⟨yL.mpr h1,h2⟩,rfl⟩,h3⟩
theorem z9 (hi:i<n):nx ((yI n).map g) i=g i:=by simp[nx,vL,hi]
variable{v:List Nat}
noncomputable def cmp (n:Nat)(w v:List Nat):List Nat:=(yI n).map fun x=>nx w (nx v x)
theorem RO (hk:k<n):nx (cmp n w v) k=nx w (nx v k):=z9 hk
theorem Mg (h:Row n w)(hv:Row n v):Row n (cmp n w v):=by
 refine Po (by simp[cmp]) (fun i hi=>?_) (fun i j hi hj e=>?_);rw[RO hi];exact h.nlt (hv.nlt hi);rw[RO hi,RO hj]at e;exact hv.inj hi hj (h.inj (hv.nlt hi) (hv.nlt hj) e)
theorem NZ (h:Row n w){x:Nat}(hx:x<n):∀ i,it w (it (back w) x i) i=x
 | 0=>rfl
 | i+1=>by
  have hl:=Y4 h.back hx i;show it w (nx (back w) (it (back w) x i)) (i+1)=x;have e:=Yg (w:=w) (nx (back w) (it (back w) x i)) 1 i;rw[show 1+i=i+1 from by lia]at e;rw[e];show it w (nx w (nx (back w) (it (back w) x i))) i=x;rw[VE h hl,NZ h hx i]
theorem Ib (h:M∈Ye n w):∃ x,x<n/\Yl n w x=true/\M=cyc n w x:=by
 obtain⟨l,hl,rfl⟩:=yE.mp h;obtain⟨h1,h2⟩:=yk.mp hl;exact⟨l,yL.mp h1,h2,Z⟩
noncomputable def U7 (n:Nat)(u v:List Nat)(c:Nat):List Nat:=(yI n).map fun k=>nx u (it v k c)
variable{u:List Nat}
theorem UB (hk:k<n):nx (U7 n u v c) k=nx u (it v k c):=by
 have:(yI n)[k]?=some k:=by simp[hk]
 exact K8 this
theorem Ld {n:Nat}{v:List Nat}(rv:Row n v):∀ c {i j:Nat},i<n->j<n->it v i c=it v j c->i=j
 | 0,_,_,_,_,h=>h
 | c+1,_,_,hi,hj,h=>Ld rv c hi hj (rv.inj (Y4 rv hi c) (Y4 rv hj c) h)
theorem Nt (ru:Row n u)(rv:Row n v)(c:Nat):Row n (U7 n u v c):=by
 refine Po (by simp[U7]) (fun i hi=>?_) (fun i j hi hj h=>?_);rw[UB hi];exact ru.nlt (Y4 rv hi c);rw[UB hi,UB hj]at h;exact Ld rv c hi hj (ru.inj (Y4 rv hi c) (Y4 rv hj c) h)
section
variable {r E:List Nat}{x0:Nat}
theorem L9 (rr:Row n r)(my:x0<n):∀ q,it r x0 (per n r x0*q)=x0
 | 0=>rfl
 | q+1=>by rw[Nat.mul_succ,Yg,L9 rr my q,(RH rr my).1]
theorem Dd (rr:Row n r)(my:x0<n)(hx:x∈cyc n r x0)(q:Nat):it r x (per n r x0*q)=x:=by
 obtain⟨i,hi,rfl⟩:=Ua rr hx;rw[<-Yg,Nat.add_comm,Yg,L9 rr my]
theorem EG (rr:Row n r)(my:x0<n)(hx:x∈cyc n r x0):∀ j,it r x j∈cyc n r x0:=fun j=>by
 obtain⟨i,hi,rfl⟩:=Ua rr hx;rw[<-Yg];exact RX rr my _
end
variable{x0:Nat}
section
variable {r E E':List Nat}
theorem EF (rr:Row n r)(my:x0<n):∀ c,∀ x∈cyc n r x0,it (back r) x c=it r x (c*(per n r x0-1)):=by
 have hp:1<=per n r x0:=by unfold per;lia
 have pJ:∀ y∈cyc n r x0,y<n:=fun y hy=>PJ rr my hy;have one:∀ x∈cyc n r x0,nx (back r) x=it r x (per n r x0-1):=fun x hx=>by
  have h1:=Dd rr my hx 1;rw[Nat.mul_one]at h1;have h2:nx r (it r x (per n r x0-1))=x:=by
   have:it r x (per n r x0-1+1)=x:=(by rw[show per n r x0-1+1=per n r x0 from by lia];exact h1);exact this
  have:=tX (nx (back r)) h2;rw[Vr rr (Y4 rr (pJ x hx) _)]at this;exact this.symm
 intro c x hx
 induction c with
 | zero=>rw[Nat.zero_mul];rfl
 | succ c ih=>
  show nx (back r) (it (back r) x c)=_;rw[ih,one _ (EG rr my hx _),<-Yg,Nat.succ_mul]
end
noncomputable def XH (r u M:List Nat)(k:Nat):List Nat:=match M[k]? with
 | some x=>put (put M (nx r x)) (nx u x)
 | none=>M
noncomputable def bf (r u:List Nat)(first:Nat):Nat->List Nat
 | 0=>[first]
 | k+1=>XH r u (bf r u first k) k
noncomputable def order (r u:List Nat)(first:Nat):List Nat:=bf r u first 100
variable{r:List Nat}{first:Nat}
theorem LS (h:(bf r u first k)[k]?=some x):bf r u first (k+1)=put (put (bf r u first k) (nx r x)) (nx u x):=by
 show XH r u (bf r u first k) k=_;unfold XH;rw[h]
theorem Nk {r u:List Nat}{first k:Nat}(h:(bf r u first k).length<=k):∀ j,bf r u first (k+j)=bf r u first k
 | 0=>rfl
 | j+1=>by
  have ih:=Nk h j;show XH r u (bf r u first (k+j)) (k+j)=_;rw[ih];unfold XH;rw[xO (by omega)]
theorem Fu (h:(bf r u first k).length<=k)(hk:k<=100):order r u first=bf r u first k:=by
 have:=Nk h (100-k);rwa [show k+(100-k)=100 from by omega]at this
theorem Tb (hr:Row n r)(nd:M.Nodup)(lt:∀ x∈M,x<n)(sh:∀ x∈M,nx r x∈M)(hx:x<n)(hn:x∉M):nx r x∉M:=fun z=>by
 have gJ:(M.map (nx r)).Nodup:=wQ.mpr (qA (fun {a b} ha hb pC e=>pC (hr.inj (lt a ha) (lt b hb) e)) nd);have:=full gJ (l':=M) (fun y hy=>by obtain⟨w,hw,rfl⟩:=yE.mp hy;exact sh w hw) (by simp) _ z;obtain⟨w,hw,e⟩:=yE.mp this;exact hn (hr.inj (lt w hw) hx e ▸ hw)
theorem Pt.fullAny (s:ZW n r u)(h:Pt n r u first M):Row n M:=by
 have h0:0∈M:=tR fun h0=>by
  have:=s.conn (fun x=>x∉M) h0 (fun x hx hn=>⟨Tb s.row h.nd h.lt (fun y hy=>(h.shut y hy).1) hx hn,Tb s.col h.nd h.lt (fun y hy=>(h.shut y hy).2) hx hn⟩) first (h.lt _ h.hd);exact this h.hd
 have all:∀ x,x<n->x∈M:=s.conn (fun x=>x∈M) h0 fun x _ hx=>h.shut x hx;have l1:=X5 M (yI n) h.nd fun x hx=>yL.mpr (h.lt x hx);have l2:=X5 (yI n) M vG fun x hx=>all x (yL.mp hx);simp only[wM]at l1 l2;exact⟨by omega,h.nd,h.lt⟩
theorem Met.order {n:Nat}{r u:List Nat}{first k:Nat}(s:ZW n r u)(h:Met n r u first (bf r u first k) k)(hk:(bf r u first k).length<=k):bf r u first k=Sq.order r u first/\Row n (Sq.order r u first):=by
 have h1:=h.kle;have h2:=h.len;have h3:=s.most;have e:=Fu hk (by omega);refine⟨e.symm,?_⟩;rw[e];exact (h.all hk).fullAny s
variable {n:Nat}{r u:List Nat}
theorem Gz (h:Row n r){T:Nat->Prop}(hT:∀ x,x<n->T x->T (nx (back r) x))(hx:x<n)(tx:T x):T (nx r x):=by
 have hb:=h.back;have all:∀ k,T (it (back r) x k):=by
  intro k
  induction k with
  | zero=>exact tx
  | succ k ih=>exact hT _ (Y4 hb hx k) ih
 have hp:=(RH hb hx).1;have pos:0<per n (back r) x:=Nat.succ_pos _;obtain⟨k,hk⟩:∃ k,per n (back r) x=k+1:=⟨per n (back r) x-1,by omega⟩;rw[hk]at hp;have hz:=Y4 hb hx k;have e:nx (back r) (it (back r) x k)=x:=hp;rw[X2 h hz]at e;have h2:=h.nx_idx hz;rw[e]at h2;rw[h2];exact all k
theorem ZW.up (h:ZW n r u):ZW n r (back u) where
 pos:=h.pos
 most:=h.most
 row:=h.row
 col:=h.col.back
 conn:=fun T t0 hT x hx=>h.conn T t0 (fun y hy ty=>⟨(hT y hy ty).1,Gz h.col (fun z hz tz=>(hT z hz tz).2) hy ty⟩) x hx
section
variable {nb:Nat}{rb ub m:List Nat}
theorem ZW.swap (h:ZW n r u):ZW n u r:=⟨h.pos,h.most,h.col,h.row,fun T h0 hT=>h.conn T h0 fun x hx mx=>⟨(hT x hx mx).2,(hT x hx mx).1⟩⟩
theorem ZW.turn (h:ZW n r u):ZW n (back u) r:=h.up.swap
end
noncomputable def itz (r:List Nat)(z:Int)(x:Nat):Nat:=if 0<=z then it r x z.toNat else it (back r) x (-z).toNat
theorem Me {x0:Nat}{M:List Nat}(h:Cyc r x0 M):∀ q,it r x0 (M.length*q)=x0
 | 0=>rfl
 | q+1=>by rw[Nat.mul_succ,Yg,Me h q,h.back]
theorem Si (h:Cyc r x0 M)(j:Nat):it r x0 (j%M.length)=it r x0 j:=by
 conv=>rhs;rw[<-Nat.div_add_mod j M.length,Yg,Me h]
theorem Sd (rr:Row n r)(hx:x0<n)(h:Cyc r x0 M)(k:Nat)(z:Int):itz r z (it r x0 k)=it r x0 (((k:Int)+z)%(M.length:Int)).toNat:=by
 have hp:=h.pos;have tn:∀ {j:Nat} {v:Int} {q:Int},(j:Int)=v+(M.length:Int)*q->(v%(M.length:Int)).toNat=j%M.length:=fun {j v q} e=>by
  have:(j:Int)%(M.length:Int)=v%(M.length:Int):=by rw[e,Int.add_mul_emod_self_left]
  lia
 unfold itz;by_cases hz:0<=z;rw[uK hz,<-Yg,tn (j:=k+z.toNat) (q:=0) (by lia),Si h];rw[uL hz];obtain⟨i,hi⟩:∃ i:Nat,(-z).toNat=i:=⟨_,rfl⟩;rw[hi];have hLi:i<=M.length*i:=Nat.le_mul_of_pos_left i hp;have e1:it r x0 k=it r (it r x0 (k+(M.length*i-i))) i:=by
  rw[<-Yg,show k+(M.length*i-i)+i=k+M.length*i by lia,<-Si h (k+M.length*i),Nat.add_mul_mod_self_left,Si h]
 have pJ:=Y4 rr hx (k+(M.length*i-i));have e2:=NZ rr.back pJ i;rw[Hy rr]at e2;rw[e1,e2,tn (j:=k+(M.length*i-i)) (v:=(k:Int)+z) (q:=(i:Int)) (by
  have:((M.length*i:Nat):Int)=(M.length:Int)*(i:Int):=Int.natCast_mul _ _
  lia),Si h]
theorem Bm (rr:Row n r)(hx:x<n)(z:Int):itz r z x<n:=by
 unfold itz;split;exact Y4 rr hx _;exact Y4 rr.back hx _
theorem DJ (rr:Row n r)(hx:x<n)(a b:Int):itz r a (itz r b x)=itz r (a+b) x:=by
 have h:=Xy rr hx;have hp:=h.pos;have e1:=Sd rr hx h 0 b;have e2:=Sd rr hx h 0 (a+b);have e0:it r x 0=x:=rfl;rw[e0]at e1 e2;rw[e1,e2,Sd rr hx h];congr 2;have nn:=Int.emod_nonneg ((0:Nat)+b) (show ((cyc n r x).length:Int)≠0 by lia);rw[wj nn,Int.emod_add_emod];congr 1;lia
theorem FK (x:Nat):itz r 0 x=x:=rfl
noncomputable def shI (n:Nat)(r u:List Nat)(m:Int):List Nat:=if 0<=-m then U7 n u r (-m).toNat else U7 n u (back r) m.toNat
theorem DY (rr:Row n r)(ru:Row n u)(m:Int):Row n (shI n r u m):=by
 unfold shI;split;exact Nt ru rr _;exact Nt ru rr.back _
theorem B6 {m:Int}(hx:x<n):nx (shI n r u m) x=nx u (itz r (-m) x):=by
 unfold shI itz;split;rw[UB hx];rw[UB hx,Int.neg_neg]
theorem Hl (s:ZW n r u)(m:Int):ZW n r (shI n r u m) where
 pos:=s.pos
 most:=s.most
 row:=s.row
 col:=DY s.row s.col m
 conn:=fun T h0 hT=>s.conn T h0 fun x hx mx=>by
  have rr:=s.row;have ft:∀ c,T (it r x c):=fun c=>by
   induction c with
   | zero=>exact mx
   | succ c ih=>exact (hT _ (Y4 rr hx c) ih).1
  have fz:∀ z:Int,T (itz r z x):=fun z=>by
   unfold itz;split;exact ft _;rw[EF rr hx _ x (by have:=(Xy rr hx).is;have hp:=(Xy rr hx).pos;rw[this];exact yE.mpr ⟨0,yL.mpr hp,rfl⟩)];exact ft _
  refine⟨(hT x hx mx).1,?_⟩;have h1:=Bm rr hx m;have:=(hT _ h1 (fz m)).2;rwa [B6 h1,DJ rr hx,show -m+m=0 by lia,FK]at this
noncomputable def tn:Nat->List Nat×List Nat->List Nat×List Nat
 | 0,x=>x
 | k+1,x=>tn k (back x.2,x.1)
theorem KL:∀ (j k:Nat) (x:List Nat×List Nat),tn k (tn j x)=tn (j+k) x
 | 0,k,x=>by rw[Nat.zero_add];rfl
 | j+1,k,x=>by rw[show j+1+k=(j+k)+1 by lia];exact KL j k _
theorem Mx:∀ (k:Nat) {x:List Nat×List Nat},ZW n x.1 x.2->ZW n (tn k x).1 (tn k x).2
 | 0,_,h=>h
 | k+1,x,h=>Mx k (x:=(back x.2,x.1)) h.turn
noncomputable def dd (n:Nat)(k:Nat)(m:Int)(x:List Nat×List Nat):List Nat×List Nat:=
 if k=0 then (x.1,shI n x.1 x.2 m) else if k=1 then tn (m%4).toNat x else if k=2 then (back x.1,x.2) else if k=3 then (x.1,back x.2) else x
theorem SD {m:Int}{x:List Nat×List Nat}(s:ZW n x.1 x.2):ZW n (dd n k m x).1 (dd n k m x).2:=by
 unfold dd;split;exact Hl s m;split;exact Mx _ s;split
 ·exact s.swap.up.swap
 split;exact s.up;exact s
def Con (r u:List Nat)(f x:Nat):Prop:=∃ p:List Nat,(∀ c∈p,c<4)/\go r u f p=x
theorem Con.refl (r u:List Nat)(x:Nat):Con r u x x:=⟨[],by simp,rfl⟩
theorem Ax (r u:List Nat)(x:Nat)(p q:List Nat):go r u x (p++q)=go r u (go r u x p) q:=by unfold go;rw[wN]
theorem Con.trans {z:Nat}(h1:Con r u x y)(h2:Con r u y z):Con r u x z:=by
 obtain⟨p,a1,a2⟩:=h1;obtain⟨q,b1,b2⟩:=h2;exact⟨p++q,fun c hc=>(yo.mp hc).elim (a1 c) (b1 c),by rw[Ax,a2,b2]⟩
theorem Con.step (x c:Nat)(hc:c<4):Con r u x (nx (rw4 r u c) x):=⟨[c],by simpa using hc,rfl⟩
noncomputable def twn (c:Nat):Nat:=if c%2=0 then c+1 else c-1
theorem HM (rr:Row n r)(ru:Row n u)(hc:c<4)(hx:x<n):nx (rw4 r u (twn c)) (nx (rw4 r u c) x)=x:=by
 match c,hc with
 | 0,_=>show nx (back r) (nx r x)=x;rw[X2 rr (rr.nlt hx),rr.idx_nx hx]
 | 1,_=>show nx r (nx (back r) x)=x;rw[X2 rr hx,rr.nx_idx hx]
 | 2,_=>show nx (back u) (nx u x)=x;rw[X2 ru (ru.nlt hx),ru.idx_nx hx]
 | 3,_=>show nx u (nx (back u) x)=x;rw[X2 ru hx,ru.nx_idx hx]
theorem Con.symm (rr:Row n r)(ru:Row n u)(hx:x<n)(h:Con r u x y):Con r u y x:=by
 obtain⟨p,h4,rfl⟩:=h
 induction p generalizing x with
 | nil=>exact Con.refl _ _ _
 | cons c p ih=>
  have hc:=h4 c (by simp);have h1:=ih ((PX rr ru c).nlt hx) (fun y hy=>h4 y (by simp[hy]));have h2:Con r u (nx (rw4 r u c) x) x:=by
   have:twn c<4:=(by unfold twn;split<;>omega);have e:=Con.step (r:=r) (u:=u) (nx (rw4 r u c) x) (twn c) this;rw[HM rr ru hc hx]at e;exact e
  exact h1.trans h2
variable{f:Nat}
theorem Vp.con {F:List Nat}{P:List (List Nat)}(h:Vp n r u f F P):x∈F↔Con r u f x:=by
 constructor;intro hx;obtain⟨i,hi,e⟩:=yc.mp hx;have hP:i<P.length:=by rw[h.len];exact hi
 obtain⟨g1,_,g3⟩:=h.ok i x _ (by rw[yR hi,e]) (yR hP);exact⟨_,g3,g1⟩
 ·rintro ⟨p,h4,rfl⟩;have:∀ (p:List Nat) (y:Nat),y∈F->(∀ c∈p,c<4)->go r u y p∈F:=by
   intro p
   induction p with
   | nil=>intro y hy _;exact hy
   | cons c p ih=>
    intro y hy h4;exact ih _ (h.shut y hy c (h4 c (by simp))) (fun z hz=>h4 z (by simp[hz]))
  exact this p f h.hd h4
open Classical in
noncomputable def clsG (n:Nat) (r u:List Nat) (f:Nat):List Nat:=(yI n).filter fun x=>decide (Con r u f x)
theorem WK :x∈clsG n r u f↔x<n/\Con r u f x:=by
 unfold clsG;rw[yk,yL];simp
theorem Sr (n:Nat)(r u:List Nat)(f:Nat):(clsG n r u f).Nodup:=qg.filter _
theorem QT (n:Nat)(r u:List Nat)(f:Nat):(clsG n r u f).Pairwise (·<=·):=(IU n).filter _
theorem Vp.clsG {n:Nat}{r u:List Nat}{f:Nat}{F S:List Nat}{P:List (List Nat)}(h:Vp n r u f F P)(p:S.Perm F)(so:S.Pairwise (·<=·)):S=clsG n r u f:=by
 refine QW (p.trans ((wx h.nd (Sr _ _ _ _)).mpr fun x=>?_)) so (QT _ _ _ _);rw[WK,<-h.con];exact⟨fun hx=>⟨h.lt x hx,hx⟩,fun hx=>hx.2⟩
def YF (n:Nat)(r u:List Nat)(f:Nat):Prop:=∀ x,x<n->Con r u f x->f<=x
open Classical in
noncomputable def YL (n:Nat) (r u:List Nat) (i:Nat):List (List Nat):=((yI i).filter fun f=>decide (YF n r u f)).map (clsG n r u)
noncomputable def grp (n:Nat) (r u:List Nat):List (List Nat):=YL n r u n
theorem QG (h:YF n r u i):YL n r u (i+1)=YL n r u i++[clsG n r u i]:=by
 unfold YL;rw[vX,vb,ym];simp[h]
theorem ES (h:¬ YF n r u i):YL n r u (i+1)=YL n r u i:=by
 unfold YL;rw[vX,vb,ym];simp[h]
theorem HD (n:Nat)(r u:List Nat)(i:Nat):(YL n r u i).length<=i:=by
 unfold YL;rw[yK];exact xQ (vJ _ _) (by simp)
theorem N3 (rr:Row n r)(ru:Row n u)(hi:i<n):(∃ f,f<i/\Con r u f i)↔¬ YF n r u i:=by
 constructor;rintro ⟨f,hf,hc⟩ hL;have:=hL f (by omega) (hc.symm rr ru (by omega));omega;intro h;unfold YF at h;have:∃ x,x<n/\Con r u i x/\x<i:=by
  apply tR;intro hn;exact h fun x hx hc=>Nat.le_of_not_lt fun pJ=>hn ⟨x,hx,hc,pJ⟩
 obtain⟨x,hx,hc,pJ⟩:=this;exact⟨x,pJ,hc.symm rr ru hi⟩
section
variable {N:Nat}{ps:List (List Nat)}
theorem LR :M∈grp n r u↔∃ f,f<n/\YF n r u f/\M=clsG n r u f:=by
 unfold grp YL;rw[yE];constructor;rintro ⟨f,hf,e⟩;obtain⟨h1,h2⟩:=yk.mp hf;exact⟨f,yL.mp h1,by simpa using h2,e.symm⟩;rintro ⟨f,h1,h2,e⟩;exact⟨f,yk.mpr ⟨yL.mpr h1,by simpa using h2⟩,e.symm⟩
theorem Ll (hf:f<n)(hL:YF n r u f):∃ t,clsG n r u f=f::t:=by
 have hm:f∈clsG n r u f:=WK.mpr ⟨hf,Con.refl _ _ _⟩;cases hc:clsG n r u f with
 | nil=>rw[hc]at hm;exact absurd hm (by simp)
 | cons a t=>
  have so:=QT n r u f;rw[hc]at so hm;have ha:a∈clsG n r u f:=by rw[hc];simp
  have h1:=hL a (WK.mp ha).1 (WK.mp ha).2;have h2:a<=f:=by
   rcases yl.mp hm with e|e;lia;exact (vc.mp so).1 f e
  exact⟨t,by rw[show a=f by lia]⟩
noncomputable def hd0 (M:List Nat):Nat:=M.headD 0
theorem G9 (n:Nat)(r u:List Nat):(grp n r u).map hd0=(yI n).filter (fun f=>@decide (YF n r u f) (sf _)):=by
 unfold grp YL;rw[xl];have:∀ l:List Nat,(∀ f∈l,f<n/\YF n r u f)->l.map (hd0 ∘ clsG n r u)=l:=fun l=>by
  induction l with
  | nil=>intro _;rfl
  | cons a l ih=>
   intro h;obtain⟨t,e⟩:=Ll (h a (by simp)).1 (h a (by simp)).2;rw[ye,ih fun f hf=>h f (by simp[hf])];show hd0 (clsG n r u a)::l=_;rw[e];rfl
 exact this _ fun f hf=>by
  obtain⟨h1,h2⟩:=yk.mp hf;exact⟨yL.mp h1,by simpa using h2⟩
end
end Sq
namespace Sq
open L2
variable{n:Nat}{r u:List Nat}{T:Nat->Prop}
theorem ZW.any (s:ZW n r u){x0:Nat}(h0:x0<n)(ht:T x0)(sh:QZ n r u T):∀ x,x<n->T x:=by
 classical
 have M:=(yI n).filter fun x=>decide (T x);have key:∀ {row:List Nat},Row n row->(∀ x,x<n->T x->T (nx row x))->∀ x,x<n->¬ T x->¬ T (nx row x):=fun {row} rr cl x hx hn z=>by
  have:=Tb (M:=(yI n).filter fun x=>decide (T x)) rr (qg.filter _) (fun x hx=>yL.mp (yk.mp hx).1)
   (fun y hy=>by
    obtain⟨h1,h2⟩:=yk.mp hy
    have h1:=yL.mp h1
    exact yk.mpr ⟨yL.mpr (rr.nlt h1),uO (cl y h1 (uF h2))⟩) hx (fun w=>hn (uF (yk.mp w).2))
  exact this (yk.mpr ⟨yL.mpr (rr.nlt hx),uO z⟩)
 by_cases c:T 0;exact s.conn T c sh;have:=s.conn (fun x=>¬ T x) c (fun x hx hn=>⟨key s.row (fun y hy ht=>(sh y hy ht).1) x hx hn,key s.col (fun y hy ht=>(sh y hy ht).2) x hx hn⟩) x0 h0;exact absurd ht this
theorem ZW.ren {n:Nat}{r u f:List Nat}(s:ZW n r u)(hf:Row n f):ZW n (ren r f) (Sq.ren u f) where
 pos:=s.pos
 most:=s.most
 row:=Ux s.row hf
 col:=Ux s.col hf
 conn:=fun T h0 sh x hx=>by
  have:=s.any (T:=fun y=>T (nx f y)) (hf.back.nlt s.pos) (by show T (nx f (nx (back f) 0));rw[VE hf s.pos];exact h0) (fun y hy ht=>by
   obtain⟨h1,h2⟩:=sh (nx f y) (hf.nlt hy) ht
   rw[Vg hf hy]at h1 h2
   exact⟨h1,h2⟩) (nx (back f) x) (hf.back.nlt hx)
  rwa [VE hf hx]at this
variable{f:List Nat}{y:Nat}
theorem Lv {M:List Nat}(hf:Row n f)(lt:∀ x∈M,x<n)(hy:y<n):put (M.map (nx f)) (nx f y)=(put M y).map (nx f):=by
 unfold put;by_cases c:y∈M;rw[uK c,uK (yE.mpr ⟨y,c,rfl⟩)];rw[uL c,uL (fun w=>by obtain⟨x,hx,e⟩:=yE.mp w;exact c (hf.inj (lt x hx) hy e ▸ hx)),ym];rfl
theorem Pz {M:List Nat}(lt:∀ x∈M,x<n)(hy:y<n):∀ x∈put M y,x<n:=fun x hx=>by
 unfold put at hx;split at hx;exact lt x hx;rcases yo.mp hx with h|h;exact lt x h;rw[yH.mp h];exact hy
theorem K4 {n:Nat}{r u f:List Nat}{x:Nat}(hr:Row n r)(hu:Row n u)(hf:Row n f)(hx:x<n):∀ k,(∀ y∈bf r u x k,y<n)/\bf (ren r f) (ren u f) (nx f x) k=(bf r u x k).map (nx f)
 | 0=>⟨fun y hy=>by rw[yH.mp hy];exact hx,rfl⟩
 | k+1=>by
  obtain⟨lt,ih⟩:=K4 hr hu hf hx k;show (∀ y∈XH r u (bf r u x k) k,y<n)/\XH (ren r f) (ren u f) (bf (ren r f) (ren u f) (nx f x) k) k=(XH r u (bf r u x k) k).map (nx f);rw[ih];unfold XH;rw[yw];cases e:(bf r u x k)[k]? with
  | none=>exact⟨lt,Z⟩
  | some y=>
   have hy:=lt y (yA e);dsimp only [Option.map];refine⟨Pz (Pz lt (hr.nlt hy)) (hu.nlt hy),?_⟩;rw[Vg hf hy,Vg hf hy,Lv hf lt (hr.nlt hy),Lv hf (Pz lt (hr.nlt hy)) (hu.nlt hy)]
theorem NF {x:Nat}(hr:Row n r)(hu:Row n u)(hf:Row n f)(hx:x<n):order (ren r f) (ren u f) (nx f x)=(order r u x).map (nx f):=(K4 hr hu hf hx 100).2
theorem Lm {n:Nat}{f:List Nat}(hf:Row n f):∀ {o:List Nat} {y:Nat},(∀ x∈o,x<n)->y<n->(o.map (nx f)).idxOf (nx f y)=o.idxOf y
 | [],_,_,_=>rfl
 | x::o,y,lt,hy=>by
  rw[ye,List.idxOf_cons,List.idxOf_cons,Lm hf (fun z hz=>lt z (by simp[hz])) hy];by_cases e:x=y;rw[e];simp;have:nx f x≠nx f y:=fun z=>e (hf.inj (lt x (by simp)) hy z);rw[show (nx f x==nx f y)=false from by simpa using this,show (x==y)=false from by simpa using e]
noncomputable def nbr (r u:List Nat)(x:Nat):List Nat:=back (order r u x)
noncomputable def Yy (r u:List Nat)(x:Nat):List Nat:=ren r (nbr r u x)++ren u (nbr r u x)
def TU (n:Nat)(r u:List Nat)(x:Nat):Prop:=x<n/\Row n (nbr r u x)/\∀ y,y<n->ZE false (Yy r u y++nbr r u y) (Yy r u x++nbr r u x)=false
theorem VG {x:Nat}(s:ZW n r u)(hx:x<n):Row n (order r u x):=by
 have go:∀ d k,n+1-k=d->Met n r u x (bf r u x k) k->Row n (order r u x):=by
  intro d
  induction d with
  | zero=>
   intro k hk h;have:=h.len;exact (h.order s (by lia)).2
  | succ d ih=>
   intro k hk h;by_cases c:(bf r u x k).length<=k;exact (h.order s c).2;obtain⟨y,hy⟩:∃ y,(bf r u x k)[k]?=some y:=⟨_,yR (by lia)⟩;refine ih (k+1) (by lia) ?_;rw[LS hy];exact h.step s.row s.col hy
 exact go _ 0 rfl (Met.start hx)
theorem Xk {x:Nat}(s:ZW n r u)(hx:x<n):Row n (nbr r u x):=(VG s hx).back
theorem Mf {x:Nat}(s:ZW n r u)(hf:Row n f)(hx:x<n)(hy:y<n):nx (nbr (ren r f) (ren u f) (nx f x)) (nx f y)=nx (nbr r u x) y:=by
 have ro:=VG s hx;have ro':Row n (order (ren r f) (ren u f) (nx f x)):=VG (s.ren hf) (hf.nlt hx);unfold nbr;rw[X2 ro' (hf.nlt hy),X2 ro hy,NF s.row s.col hf hx,Lm hf ro.lt hy]
theorem Mj {g h:List Nat}(hr:Row n r)(hf:Row n f)(hg:Row n g)(hh:Row n h)(e:∀ y,y<n->nx g (nx f y)=nx h y):ren (ren r f) g=ren r h:=by
 refine LD (n:=n) (by rw[XD,hg.len]) (by rw[XD,hh.len]) fun i hi=>?_;have hk:=hh.back.nlt hi;have ei:nx h (nx (back h) i)=i:=VE hh hi;rw[<-ei,Vg hh hk,<-e _ hk,Vg hg (hf.nlt hk),Vg hf hk,e _ (hr.nlt hk)]
theorem EM {x:Nat}(s:ZW n r u)(hf:Row n f)(hx:x<n):Yy (ren r f) (ren u f) (nx f x)=Yy r u x:=by
 have h1:=Xk s hx;have h2:=Xk (s.ren hf) (hf.nlt hx);unfold Yy;rw[Mj s.row hf h2 h1 fun y hy=>Mf s hf hx hy,Mj s.col hf h2 h1 fun y hy=>Mf s hf hx hy]
theorem SN {x:Nat}(s:ZW n r u)(hx:x<n):(Yy r u x).length=n+n:=by
 have:=Xk s hx;unfold Yy;rw[yJ,XD,XD,this.len]
theorem Fs {a b g:List Nat}(h:a.length=b.length)(hh:ZE false (a++f) (b++g)=false):ZE false a b=false:=by
 rw[WN false h]at hh;by_cases e:a=b;rw[e,Wm];rwa [uL e]at hh
theorem TU.le {x:Nat}(s:ZW n r u)(h:TU n r u x)(hy:y<n):ZE false (Yy r u y) (Yy r u x)=false:=
 Fs (by rw[SN s hy,SN s h.1]) (h.2.2 y hy)
theorem clo {row:List Nat}(rr:Row n row)(cl:∀ x,x<n->T x->T (nx row x)):∀ x,x<n->¬ T x->¬ T (nx row x):=fun x hx hn z=>by
 classical
 have:=Tb (M:=(yI n).filter fun x=>decide (T x)) rr (qg.filter _) (fun x hx=>yL.mp (yk.mp hx).1)
  (fun y hy=>by
   obtain⟨h1,h2⟩:=yk.mp hy
   have h1:=yL.mp h1
   exact yk.mpr ⟨yL.mpr (rr.nlt h1),uO (cl y h1 (uF h2))⟩) hx (fun w=>hn (uF (yk.mp w).2))
 exact this (yk.mpr ⟨yL.mpr (rr.nlt hx),uO z⟩)
noncomputable abbrev PS2:=List Nat×List Nat
noncomputable def mvp (n c:Nat)(x:PS2):PS2:=if c=115 then (x.1,cmp n x.2 (back x.1)) else (back x.2,x.1)
variable{x:PS2}
theorem UO (c:Nat)(s:ZW n x.1 x.2):ZW n (mvp n c x).1 (mvp n c x).2:=by
 unfold mvp;split;refine⟨s.pos,s.most,s.row,Mg s.col s.row.back,fun T h0 sh=>s.conn T h0 fun y hy ht=>?_⟩;have h1:=(sh y hy ht).1;refine⟨h1,?_⟩;have h2:=(sh _ (s.row.nlt hy) h1).2;rw[RO (s.row.nlt hy),Vr s.row hy]at h2;exact h2;refine⟨s.pos,s.most,s.col.back,s.row,fun T h0 sh=>s.conn T h0 fun y hy ht=>?_⟩;refine⟨(sh y hy ht).2,tR fun hn=>?_⟩;have:=clo s.col.back (fun z hz hT=>(sh z hz hT).1) _ (s.col.nlt hy) hn;rw[Vr s.col hy]at this;exact this ht
theorem OM {r u:List Nat}(x:Nat):∀ k,(bf r u x k)[0]?=some x
 | 0=>rfl
 | k+1=>by
  show (XH r u (bf r u x k) k)[0]?=some x;unfold XH;split;exact Uh (Uh (OM x k));exact OM x k
theorem Cw {x:Nat}(s:ZW n r u)(hx:x<n):nx (nbr r u x) x=0:=by
 have ro:=VG s hx;have h0:nx (order r u x) 0=x:=by
  show (order r u x).getD 0 0=x;rw[yG,show (order r u x)[0]?=some x from OM x 100];rfl
 have:=Vr ro s.pos;rw[h0]at this;exact this
def Ym (n:Nat)(x p:PS2):Prop:=∃ k,k<n/\(∀ y,y<n->ZE false (Yy x.1 x.2 y) (Yy x.1 x.2 k)=false)/\p=(ren x.1 (nbr x.1 x.2 k),ren x.2 (nbr x.1 x.2 k))
variable{p:PS2}
theorem Ym.uniq {q:PS2}(s:ZW n x.1 x.2)(h:Ym n x p)(h':Ym n x q):p=q:=by
 obtain⟨i,hi,li,rfl⟩:=h;obtain⟨j,hj,lj,rfl⟩:=h';have e:=Ng (by rw[SN s hi,SN s hj]) (lj i hi) (li j hj);have l1:=Xk s hi;have l2:=Xk s hj;have:=vo e (by rw[XD,XD,l1.len,l2.len]);rw[this.1,this.2]
open Classical in
noncomputable def fo (n:Nat) (x:PS2):PS2:=if h:∃ p,Ym n x p then h.choose else x
theorem Rn (s:ZW n x.1 x.2)(h:Ym n x p):fo n x=p:=by
 have h':∃ p,Ym n x p:=⟨p,h⟩;unfold fo;rw[dif_pos h'];exact h'.choose_spec.uniq s h
structure Can (n:Nat)(p:PS2):Prop where
 sh:ZW n p.1 p.2
 ord:order p.1 p.2 0=yI n
theorem Can.mk2 (a:ZW n r u)(b:order r u 0=yI n):Can n (r,u):=Can.mk a b
theorem Fk {o:List Nat}(ro:Row n o):o.map (nx (back o))=yI n:=by
 apply List.ext_getElem;simp[ro.len];intro k h1 h2;have hk:k<n:=by simpa using h2
 have gn:k<o.length:=by rw[ro.len];exact hk
 rw[List.getElem_map,List.getElem_range];have ek:o[k]=nx o k:=by simp[nx,gn]
 rw[ek];exact Vr ro hk
theorem Ym.can (s:ZW n x.1 x.2)(h:Ym n x p):Can n p:=by
 obtain⟨i,hi,_,rfl⟩:=h;have rb:=Xk s hi;refine Can.mk2 (s.ren rb) ?_;have o:=VG s hi;have z:nx (nbr x.1 x.2 i) i=0:=Cw s hi;have e:=NF s.row s.col rb hi;have e2:(order x.1 x.2 i).map (nx (nbr x.1 x.2 i))=yI n:=by unfold nbr;exact Fk o
 revert e e2 z;generalize order x.1 x.2 i=oo;generalize nbr x.1 x.2 i=f;intro z e e2;rw[z,e2]at e;exact e
noncomputable def Oy (n:Nat):Nat->List (List Nat)
 | 0=>[[]]
 | m+1=>(yI n).flatMap fun a=>(Oy n m).map fun l=>a::l
theorem MC {n:Nat}:∀ {r:List Nat},(∀ x∈r,x<n)->r∈Oy n r.length
 | [],_=>yH.mpr rfl
 | a::r,h=>wm.mpr ⟨a,yL.mpr (h a xS),yE.mpr ⟨r,MC fun x hx=>h x (yx _ hx),rfl⟩⟩
noncomputable def T1 (n:Nat):List (List Nat):=(Oy n n).filter fun r=>(yI n).all fun x=>r.contains x
noncomputable def Q7 (n:Nat):List PS2:=(T1 n).flatMap fun r=>((T1 n).map fun u=>(r,u)).filter fun p=>decide (order p.1 p.2 0=yI n)
theorem S5 (h:Row n r):r∈T1 n:=by
 refine yk.mpr ⟨?_,yn.mpr fun x hx=>?_⟩;have:=MC (n:=n) (r:=r) h.lt;rwa [h.len]at this;have hx:=yL.mp hx;have:nx r (nx (back r) x)=x:=VE h hx;have hb:=h.back.nlt hx;have hl:nx (back r) x<r.length:=by rw[h.len];exact hb
 rw[List.contains_iff_mem];rw[<-this];revert hl;generalize nx (back r) x=j;intro hl;have:nx r j=r[j]:=by simp[nx,hl]
 rw[this];exact xJ hl
theorem EX (h:Can n p):p∈Q7 n:=
 wm.mpr ⟨p.1,S5 h.sh.row,yk.mpr ⟨yE.mpr ⟨p.2,S5 h.sh.col,rfl⟩,uO h.ord⟩⟩
noncomputable def few (n:Nat):Bool:=Nat.ble (Q7 n).length 71
theorem D4:(yI 5).all few=true:=by decide +kernel
theorem E8 (n:Nat)(h:n<=4):(Q7 n).length<=71:=by
 have:=yn.mp D4 n (yL.mpr (by lia));exact Nat.le_of_ble_eq_true this
noncomputable abbrev Tl:=List (PS2×List Nat)
noncomputable def has (L:Tl)(p:PS2):Bool:=L.any fun e=>decide (e.1=p)
noncomputable def Zm (L:Tl)(p:PS2)(z:List Nat):Tl:=if has L p then L else L++[(p,z)]
structure Gd (n:Nat)(L:Tl):Prop where
 nd:(L.map (·.1)).Nodup
 can:∀ e∈L,Can n e.1
variable{L:Tl}
theorem Gd.few (g:Gd n L)(hn:n<=4):L.length<=71:=by
 have h:=X5 (L.map (·.1)) (Q7 n) g.nd fun p hp=>by
  obtain⟨e,he,rfl⟩:=yE.mp hp;exact EX (g.can e he)
 rw[yK]at h;exact xQ h (E8 n hn)
theorem Md (h:has L p=false):p∉L.map (·.1):=fun hc=>by
 obtain⟨e,he,rfl⟩:=yE.mp hc;have:has L e.1=true:=xq.mpr ⟨e,he,uO rfl⟩;rw[h]at this;cases this
variable{z:List Nat}
theorem Gd.snoc (g:Gd n L)(c:Can n p)(h:has L p=false):Gd n (L++[(p,z)]):=by
 refine Gd.mk ?_ fun e he=>?_;rw[ym];refine xw.mpr ⟨g.nd,by simp,fun a ha b hb e=>?_⟩;have hb:b=p:=by simpa using hb
 rw[e,hb]at ha;exact Md h ha;have he:e∈L\/e=(p,z):=by simpa using he
 rcases he with he|rfl;exact g.can e he;exact c
theorem Gd.put (g:Gd n L)(c:Can n p):Gd n (Zm L p z):=by
 unfold Zm;split;exact g
 ·rename_i h;exact g.snoc c (by simpa using h)
theorem Gd.one (c:Can n p):Gd n (Zm [] p []):=Gd.put (Gd.mk List.nodup_nil fun e he=>nomatch he) c
variable{e:PS2×List Nat}
theorem MR {i:Nat}(h:L[i]?=some e):(Zm L p z)[i]?=some e:=by
 unfold Zm;split;exact h;rw[yq (yP.mp h).1];exact h
theorem N5 {m:Nat}(h:∀ e∈L,e.2.length<=m/\∀ c∈e.2,c=115\/c=116)(hz:z.length<=m/\∀ c∈z,c=115\/c=116):∀ e∈Zm L p z,e.2.length<=m/\∀ c∈e.2,c=115\/c=116:=by
 unfold Zm;split;exact h;intro e he;have he:e∈L\/e=(p,z):=by simpa using he
 rcases he with he|rfl;exact h e he;exact hz
noncomputable def cl (n:Nat) (x:PS2):Nat->Tl
 | 0=>Zm [] (fo n x) []
 | k+1=>match (cl n x k)[k]? with
  | some e=>Zm (Zm (cl n x k) (fo n (mvp n 115 e.1)) (e.2++[115])) (fo n (mvp n 116 e.1)) (e.2++[116])
  | none=>cl n x k
variable{k:Nat}
theorem Um (h:(cl n x k)[k]?=some e) :
  cl n x (k+1)=Zm (Zm (cl n x k) (fo n (mvp n 115 e.1)) (e.2++[115])) (fo n (mvp n 116 e.1)) (e.2++[116]):=by
 show (match (cl n x k)[k]? with|some e=>_|none=>_)=_;rw[h]
theorem QE {n:Nat}{x:PS2}{k:Nat}(h:(cl n x k).length<=k):∀ j,cl n x (k+j)=cl n x k
 | 0=>rfl
 | j+1=>by
  have ih:=QE h j;show (match (cl n x (k+j))[k+j]? with|some e=>_|none=>cl n x (k+j))=_;have:(cl n x (k+j))[k+j]?=none:=by rw[wo,ih];lia
  rw[this];exact ih
theorem KG {j:Nat}(h:(cl n x k).length<=k)(h':(cl n x j).length<=j):cl n x k=cl n x j:=by
 rcases Nat.le_total k j with q|q;have:=QE h (j-k);rw[show k+(j-k)=j by lia]at this;exact this.symm;have:=QE h' (k-j);rw[show j+(k-j)=k by lia]at this;exact this
noncomputable def QY (x:PS2)(f:List Nat):PS2:=(ren x.1 f,ren x.2 f)
theorem Ym.ren {n:Nat}{x p:PS2}{f:List Nat}(s:ZW n x.1 x.2)(hf:Row n f)(h:Ym n x p):Ym n (QY x f) p:=by
 obtain⟨k,hk,hm,rfl⟩:=h;have e:=fun y hy=>EM (x:=y) s hf hy;refine⟨nx f k,hf.nlt hk,fun y hy=>?_,?_⟩
 ·show ZE false (Yy (Sq.ren x.1 f) (Sq.ren x.2 f) y) (Yy (Sq.ren x.1 f) (Sq.ren x.2 f) (nx f k))=false;have mI:=hf.back.nlt hy;have:=e (nx (back f) y) mI;rw[VE hf hy]at this;rw[this,e k hk];exact hm _ mI
 have l1:=Xk s hk;have l2:=Xk (s.ren hf) (hf.nlt hk);have ek:=e k hk;unfold Yy at ek;have:=vo ek (by rw[XD,XD,l1.len,l2.len]);show _=(Sq.ren (Sq.ren x.1 f) (nbr (Sq.ren x.1 f) (Sq.ren x.2 f) (nx f k)),Sq.ren (Sq.ren x.2 f) (nbr (Sq.ren x.1 f) (Sq.ren x.2 f) (nx f k)));rw[this.1,this.2]
theorem MY {n:Nat}(f:Nat->List Nat):∀ m,1<=m->∃ k,k<m/\∀ y,y<m->ZE false (f y) (f k)=false
 | 0,h=>by lia
 | 1,_=>⟨0,by lia,fun y hy=>by rw[show y=0 by lia];exact Wm false _⟩
 | m+2,_=>by
  obtain⟨k,hk,hm⟩:=MY f (n:=n) (m+1) (by lia);cases c:ZE false (f (m+1)) (f k) with
  | false=>
   refine⟨k,by lia,fun y hy=>?_⟩;by_cases e:y=m+1;rw[e];exact c;exact hm y (by lia)
  | true=>
   refine⟨m+1,by lia,fun y hy=>?_⟩;by_cases e:y=m+1;rw[e];exact Wm false _
   ·cases d:ZE false (f y) (f (m+1)) with
    | false=>rfl
    | true=>
     have:=P5 d c;rw[hm y (by lia)]at this;exact this.symm
theorem V4 (s:ZW n x.1 x.2):Ym n x (fo n x):=by
 obtain⟨k,hk,hm⟩:=MY (n:=n) (Yy x.1 x.2) n s.pos;have h:Ym n x (ren x.1 (nbr x.1 x.2 k),ren x.2 (nbr x.1 x.2 k)):=⟨k,hk,hm,rfl⟩;rw[Rn s h];exact h
theorem P3 :has (Zm L p z) p=true:=by
 unfold Zm;split
 ·assumption
 unfold has;simp
theorem EK {q:PS2}(h:has L p=true):has (Zm L q z) p=true:=by
 unfold Zm;split;exact h;unfold has at *;rw[List.any_append,h];rfl
theorem Qs {n:Nat}{x:PS2}{k i:Nat}{e:PS2×List Nat}(h:(cl n x k)[i]?=some e):∀ j,(cl n x (k+j))[i]?=some e
 | 0=>h
 | j+1=>by
  have ih:=Qs h j;cases c:(cl n x (k+j))[k+j]? with
  | none=>
   have e1:cl n x (k+j+1)=cl n x (k+j):=by
    show (match (cl n x (k+j))[k+j]? with|some e=>_|none=>cl n x (k+j))=_;rw[c]
   rw[show k+(j+1)=k+j+1 from rfl,e1];exact ih
  | some e'=>
   rw[show k+(j+1)=k+j+1 from rfl,Um c];exact MR (MR ih)
theorem K3 (h:has (cl n x k) p=true):∀ j,has (cl n x (k+j)) p=true:=fun j=>by
 unfold has at *;obtain⟨e,he,hp⟩:=xq.mp h;obtain⟨i,hi⟩:=List.mem_iff_getElem?.mp he;exact xq.mpr ⟨e,yA (Qs hi j),hp⟩
theorem NB {c:Nat}(h:(cl n x k).length<=k)(he:e∈cl n x k)(hc:c=115\/c=116):has (cl n x k) (fo n (mvp n c e.1))=true:=by
 obtain⟨i,hi⟩:=List.mem_iff_getElem?.mp he;have hl:=(yP.mp hi).1;cases d:(cl n x i)[i]? with
 | none=>
  have hle:(cl n x i).length<=i:=wo.mp d;have:=KG h hle;rw[this]at hl;lia
 | some e'=>
  have e1:=Qs d (k-i);rw[show i+(k-i)=k by lia,hi]at e1;cases e1;have nx1:=Um d;have g:has (cl n x (i+1)) (fo n (mvp n c e.1))=true:=by
   rw[nx1];rcases hc with rfl|rfl;exact EK P3;exact P3
  have:=K3 g (k-(i+1));rwa [show i+1+(k-(i+1))=k by lia]at this
structure Fm (n:Nat)(p:PS2):Prop where
 sh:ZW n p.1 p.2
 fo:Sq.fo n p=p
theorem Cg (s:ZW n x.1 x.2):∃ f,Row n f/\fo n x=QY x f:=by
 obtain⟨k,hk,_,e⟩:=V4 s;exact⟨_,Xk s hk,e⟩
theorem DB (s:ZW n x.1 x.2)(hf:Row n f):fo n (QY x f)=fo n x:=Rn (x:=QY x f) (s.ren hf) ((V4 s).ren s hf)
theorem Kn (s:ZW n x.1 x.2):Fm n (fo n x):=by
 have c:=(V4 s).can s;refine Fm.mk c.sh ?_;obtain⟨f,hf,e⟩:=Cg s;have:=DB s hf;rw[<-e]at this;exact this
theorem K7 {n:Nat}{x:PS2}(s:ZW n x.1 x.2)(T:PS2->Prop)(h0:T (fo n x))(hs:∀ p c,Fm n p->T p->(c=115\/c=116)->T (fo n (mvp n c p))):∀ k,∀ e∈cl n x k,Fm n e.1/\T e.1
 | 0=>fun e he=>by
  have he:e=(fo n x,[]):=by simpa [cl,Zm,has] using he
  rw[he];exact⟨Kn s,h0⟩
 | k+1=>by
  have ih:=K7 s T h0 hs k;cases c:(cl n x k)[k]? with
  | none=>
   have e1:cl n x (k+1)=cl n x k:=by
    show (match (cl n x k)[k]? with|some e=>_|none=>cl n x k)=_;rw[c]
   rw[e1];exact ih
  | some e'=>
   obtain⟨f',t'⟩:=ih e' (yA c);have put:∀ (L:Tl) (d:Nat) (z:List Nat),(d=115\/d=116)->(∀ e∈L,Fm n e.1/\T e.1)->∀ e∈Zm L (fo n (mvp n d e'.1)) z,Fm n e.1/\T e.1:=fun L d z hd hL e he=>by
    unfold Zm at he;split at he;exact hL e he;have he:e∈L\/e=(fo n (mvp n d e'.1),z):=by simpa using he
    rcases he with he|rfl;exact hL e he;exact⟨Kn (UO d f'.sh),hs _ _ f' t' hd⟩
   rw[Um c];exact put _ _ _ (.inr rfl) (put _ _ _ (.inl rfl) ih)
theorem Sf :has L p=true↔p∈L.map (·.1):=by
 unfold has;rw[xq,yE];exact⟨fun ⟨e,h1,h2⟩=>⟨e,h1,uF h2⟩,fun ⟨e,h1,h2⟩=>⟨e,h1,uO h2⟩⟩
theorem ML (k:Nat):has (cl n x k) (fo n x)=true:=by
 have:=K3 (n:=n) (x:=x) (k:=0) (p:=fo n x) P3 k;rwa [Nat.zero_add]at this
theorem Hs (s:ZW n r u):(grp n r u).length<=1:=by
 have con:∀ x,x<n->Con r u 0 x:=s.conn (fun x=>Con r u 0 x) (Con.refl _ _ _) fun x hx hc=>
  ⟨hc.trans (Con.step x 0 (by decide)),hc.trans (Con.step x 2 (by decide))⟩
 have h:((grp n r u).map hd0).length=(grp n r u).length:=yK _;rw[<-h,G9];have all:∀ f∈(yI n).filter (fun f=>@decide (YF n r u f) (sf _)),f=0:=fun f hf=>by
  obtain⟨h1,h2⟩:=yk.mp hf;have h1:=yL.mp h1;have h2:YF n r u f:=@uF _ (sf _) h2;have:=h2 0 s.pos ((con f h1).symm s.row s.col s.pos);omega
 have nd:((yI n).filter (fun f=>@decide (YF n r u f) (sf _))).Nodup:=qg.filter _
 match (yI n).filter (fun f=>@decide (YF n r u f) (sf _)),all,nd with
 | [],_,_=>exact xY _
 | [a],_,_=>exact yO _
 | a::b::t,all,nd=>
  have h1:=all a (by simp);have h2:=all b (by simp);rw[h1,h2]at nd;simp at nd
theorem JU {x:Nat}(hx:x<2)(h:Con [0,1] [0,1] x y):y=x:=by
 obtain⟨p,h4,rfl⟩:=h
 induction p with
 | nil=>rfl
 | cons c p ih=>
  have e:go [0,1] [0,1] x (c::p)=go [0,1] [0,1] (nx (rw4 [0,1] [0,1] c) x) p:=rfl;have c4:=h4 c (by simp);have e2:nx (rw4 [0,1] [0,1] c) x=x:=by
   match c,c4,x,hx with
   | 0,_,0,_|0,_,1,_|1,_,0,_|1,_,1,_|2,_,0,_|2,_,1,_|3,_,0,_|3,_,1,_=>decide
  rw[e,e2];exact ih fun d hd=>h4 d (yx _ hd)
theorem zR:grp 2 [0,1] [0,1]=[[0],[1]]:=by
 have l:∀ f,f<2->YF 2 [0,1] [0,1] f:=fun f hf x _ hc=>by rw[JU hf hc];exact yO _
 have cg:∀ f,f<2->clsG 2 [0,1] [0,1] f=[f]:=fun f hf=>by
  refine QW ((wx (Sr _ _ _ _) (by simp)).mpr fun x=>?_) (QT _ _ _ _) (by simp);rw[WK];constructor;rintro ⟨_,h⟩;rw[JU hf h];simp;intro h;have:x=f:=by simpa using h
  subst this;exact⟨hf,Con.refl _ _ _⟩
 show YL 2 [0,1] [0,1] 2=_;rw[QG (l 1 (by decide)),QG (l 0 (by decide)),cg 0 (by decide),cg 1 (by decide)];rfl
end Sq
namespace Sq
open L2
noncomputable def fp3 (r:List Nat):Bool:=decide (((yI 3).filter fun i=>decide (nx r i=i)).length=1)
noncomputable def kd3 (x:PS2):Nat:=if fp3 x.1 then (if fp3 x.2 then 0 else 1) else if fp3 x.2 then 2 else 3
noncomputable def chk3 (x:PS2):Bool:=decide ((order x.1 x.2 0).length=3)->(yI 3).all (fun k=>decide (kd3 (ren x.1 (nbr x.1 x.2 k),ren x.2 (nbr x.1 x.2 k))=kd3 x))&&(decide (kd3 x=0->kd3 (mvp 3 115 x)=1))&&(decide (kd3 x=1->kd3 (mvp 3 115 x)=0/\kd3 (mvp 3 116 x)=2))&&(decide (kd3 x=2->kd3 (mvp 3 116 x)=1))
theorem E3:((T1 3).all fun r=>(T1 3).all fun u=>chk3 (r,u))=true:=by decide +kernel
variable{x:PS2}
theorem Ur (s:ZW 3 x.1 x.2):(∀ k,k<3->kd3 (ren x.1 (nbr x.1 x.2 k),ren x.2 (nbr x.1 x.2 k))=kd3 x)/\(kd3 x=0->kd3 (mvp 3 115 x)=1)/\(kd3 x=1->kd3 (mvp 3 115 x)=0/\kd3 (mvp 3 116 x)=2)/\(kd3 x=2->kd3 (mvp 3 116 x)=1):=by
 have h:=yn.mp (yn.mp E3 x.1 (S5 s.row)) x.2 (S5 s.col);unfold chk3 at h;have h:=uF h (uO (VG s s.pos).len);rw[yy,yy,yy,uH,uH,uH,yn]at h;exact⟨fun k hk=>uF (h.1.1.1 k (yL.mpr hk)),h.1.1.2,h.1.2,h.2⟩
theorem KW (s:ZW 3 x.1 x.2):kd3 (fo 3 x)=kd3 x:=by
 obtain⟨k,hk,_,e⟩:=V4 s;rw[e];exact (Ur s).1 k hk
theorem OL {n:Nat}{x:PS2}(s:ZW n x.1 x.2):∀ k,Gd n (cl n x k)
 | 0=>Gd.one ((V4 s).can s)
 | k+1=>by
  have g:=OL s k;cases d:(cl n x k)[k]? with
  | none=>
   show Gd n (match (cl n x k)[k]? with|some e=>_|none=>cl n x k);rw[d];exact g
  | some e=>
   rw[Um d];have se:=(g.can e (yA d)).sh;have s1:=UO (n:=n) 115 se;have s2:=UO (n:=n) 116 se;exact (g.put ((V4 s1).can s1)).put ((V4 s2).can s2)
theorem Bo (s:ZW 3 x.1 x.2)(h:kd3 x≠3):∃ k,(cl 3 x k).length<=k/\Gd 3 (cl 3 x k)/\3<=(cl 3 x k).length:=by
 have hl:(cl 3 x 71).length<=71:=(OL s 71).few (by decide);have g:=OL s 71;refine⟨71,hl,g,?_⟩;have first:=ML (n:=3) (x:=x) 71;have clo:∀ {e},e∈cl 3 x 71->∀ {c},(c=115\/c=116)->has (cl 3 x 71) (fo 3 (mvp 3 c e.1))=true:=fun {e} he {c} hc=>NB hl he hc;generalize cl 3 x 71=L at g first clo;have mv:∀ {a b c:Nat},(c=115\/c=116)->(∀ {y:PS2},ZW 3 y.1 y.2->kd3 y=a->kd3 (mvp 3 c y)=b)->a∈L.map (fun e=>kd3 e.1)->b∈L.map (fun e=>kd3 e.1):=fun {a b c} hc hy ha=>by
  obtain⟨e,he,ea⟩:=yE.mp ha;have se:=(g.can e he).sh;obtain⟨e',mf,ee⟩:=yE.mp (Sf.mp (clo he hc));refine yE.mpr ⟨e',mf,?_⟩;show kd3 e'.1=b;rw[ee,KW (UO c se)];exact hy se ea
 have m01:0∈L.map (fun e=>kd3 e.1)->1∈L.map (fun e=>kd3 e.1):=mv (c:=115) (.inl rfl) fun sy e=>(Ur sy).2.1 e;have m10:1∈L.map (fun e=>kd3 e.1)->0∈L.map (fun e=>kd3 e.1):=mv (c:=115) (.inl rfl) fun sy e=>((Ur sy).2.2.1 e).1;have m12:1∈L.map (fun e=>kd3 e.1)->2∈L.map (fun e=>kd3 e.1):=mv (c:=116) (.inr rfl) fun sy e=>((Ur sy).2.2.1 e).2;have m21:2∈L.map (fun e=>kd3 e.1)->1∈L.map (fun e=>kd3 e.1):=mv (c:=116) (.inr rfl) fun sy e=>(Ur sy).2.2.2 e;have m0:kd3 x∈L.map (fun e=>kd3 e.1):=by
  obtain⟨e,he,ee⟩:=yE.mp (Sf.mp first);exact yE.mpr ⟨e,he,by show kd3 e.1=_;rw[ee,KW s]⟩
 have m1:1∈L.map (fun e=>kd3 e.1):=by
  have:kd3 x=0\/kd3 x=1\/kd3 x=2\/kd3 x=3:=by unfold kd3;split<;>split<;>simp
  rcases this with e|e|e|e;rw[e]at m0;exact m01 m0;rw[e]at m0;exact m0;rw[e]at m0;exact m21 m0;exact absurd e h
 have:=X5 [0,1,2] (L.map (fun e=>kd3 e.1)) (by decide) fun a ha=>by
  have:a=0\/a=1\/a=2:=by simpa using ha
  rcases this with e|e|e<;>subst e;exact m10 m1;exact m1;exact m12 m1
 rw[yK]at this;exact this
noncomputable def sh3:PS2:=([1,0,2],[2,1,0])
theorem UL:ZW 3 sh3.1 sh3.2 where
 pos:=by decide
 most:=by decide
 row:=by constructor<;>decide
 col:=by constructor<;>decide
 conn:=fun T h0 sh x hx=>by
  have h1:=(sh 0 (by decide) h0).1;have h2:=(sh 0 (by decide) h0).2
  match x,hx with
  | 0,_=>exact h0
  | 1,_=>exact h1
  | 2,_=>exact h2
noncomputable def st3 (a b:Int):PS2:=dd 3 1 b (dd 3 0 a sh3)
theorem Et:((yI 19).all fun i=>(yI 9).all fun j=>decide (kd3 (st3 ((i:Int)-9) ((j:Int)-4))≠3))=true:=by decide +kernel
theorem Bv {a b:Int}(h1:-9<=a/\a<=9)(h2:-4<=b/\b<=4):kd3 (st3 a b)≠3:=by
 have:=uF (yn.mp (yn.mp Et (a+9).toNat (yL.mpr (by lia))) (b+4).toNat (yL.mpr (by lia)));rwa [show (((a+9).toNat:Nat):Int)-9=a by lia,show (((b+4).toNat:Nat):Int)-4=b by lia]at this
theorem NK (a b:Int):ZW 3 (st3 a b).1 (st3 a b).2:=SD (SD UL)
end Sq
namespace K1
open PySem L2
noncomputable def top (i:Nat):Stmt:=PySem.Challenge.pw_squaresheet_k95_desk_refused.main.body.getD i (.Pass ⟨0,0,0,0⟩)
noncomputable abbrev Jb:Stmt:=top 4
noncomputable abbrev SB:Stmt:=top 19
noncomputable abbrev WC:Stmt:=top 20
noncomputable abbrev XF:Stmt:=top 21
noncomputable abbrev Sw:Stmt:=top 23
noncomputable abbrev Vb:Stmt:=top 24
noncomputable abbrev Wl:Stmt:=top 25
noncomputable abbrev Wz:Stmt:=top 26
noncomputable abbrev Rm:Stmt:=top 27
noncomputable abbrev Sh:Stmt:=top 28
noncomputable abbrev RV:Stmt:=top 29
noncomputable abbrev RL:Stmt:=top 30
noncomputable abbrev Ta:Stmt:=top 31
noncomputable abbrev Vt:Stmt:=top 32
noncomputable abbrev OY:Stmt:=top 48
noncomputable abbrev UU:Stmt:=top 49
noncomputable abbrev LX:Stmt:=top 56
noncomputable abbrev UM:Stmt:=top 57
noncomputable abbrev TV:Stmt:=top 63
noncomputable abbrev S9:Stmt:=top 64
noncomputable abbrev S4:Stmt:=top 65
noncomputable abbrev UD:Stmt:=top 66
noncomputable abbrev To:Stmt:=top 67
noncomputable abbrev UA:Stmt:=top 76
noncomputable abbrev Ul:Stmt:=top 77
noncomputable abbrev T8:Stmt:=top 78
noncomputable abbrev S8:Stmt:=top 79
noncomputable abbrev SM:Stmt:=top 81
noncomputable abbrev Tg:Stmt:=top 82
noncomputable abbrev JW:Stmt:=top 86
noncomputable abbrev Kv:Stmt:=top 92
noncomputable abbrev JT:Stmt:=top 93
noncomputable abbrev RN:Stmt:=top 98
noncomputable abbrev TJ:Stmt:=top 99
noncomputable abbrev Sn:Stmt:=top 100
noncomputable abbrev Uw:Stmt:=top 101
noncomputable abbrev UI:Stmt:=top 102
noncomputable abbrev US:Stmt:=top 103
noncomputable abbrev UP:Stmt:=top 110
noncomputable abbrev Wd:Stmt:=top 111
noncomputable abbrev SK:Stmt:=top 112
noncomputable abbrev Up:Stmt:=top 113
noncomputable abbrev VH:Stmt:=top 114
noncomputable abbrev Ti:Stmt:=top 119
noncomputable abbrev Te:Stmt:=top 120
noncomputable abbrev Tn:Stmt:=top 121
noncomputable abbrev UV:Stmt:=top 122
noncomputable abbrev Rq:Stmt:=top 124
noncomputable abbrev Nn:Stmt:=top 125
noncomputable abbrev VO:Stmt:=top 126
noncomputable abbrev SO:Stmt:=top 130
noncomputable abbrev QX:Stmt:=top 131
noncomputable abbrev U9:Stmt:=top 135
noncomputable abbrev SQ:Stmt:=top 136
noncomputable abbrev Uz:Stmt:=top 137
noncomputable abbrev Sb:Stmt:=top 138
noncomputable abbrev Uq:Stmt:=top 139
noncomputable abbrev NS:Stmt:=top 142
noncomputable abbrev ND:Stmt:=top 143
noncomputable abbrev Nw:Stmt:=top 144
noncomputable abbrev SY:Stmt:=top 146
noncomputable abbrev Sx:Stmt:=top 147
noncomputable abbrev SX:Stmt:=top 148
noncomputable abbrev Ud:Stmt:=top 149
noncomputable abbrev Uc:Stmt:=top 150
noncomputable abbrev U0:Stmt:=top 151
end K1
namespace K1
open PySem L2 Sq
structure Bi (mg:Str->Option uT):Prop where
 len:mg "len"=none
 range:mg "range"=none
 list:mg "list"=none
 tuple:mg "tuple"=none
 isin:mg "isinstance"=none
 int:mg "int"=none
 bool:mg "bool"=none
 all:mg "all"=none
 set:mg "set"=none
 sorted:mg "sorted"=none
 enum:mg "enumerate"=none
structure Fn (K:yS)(mg:Str->Option uT)(x:Str)(st:Stmt)(ps:List Str)(f:Addr)(fd:uC):Prop where
 F:Fun K x x st f fd
 b:Zn K fd ps []
 m:mg x=some (.ref f)
def XJ (K:yS)(H:Hp)(p:Addr)(r:List Nat):Prop:=SqL K H p (nv r)\/SqT K H p (nv r)
def LL:Sp:=fun vs H Q _=>∃ i:Int,vs=[.int i]/\Q (.bl true) H
def Vl:Sp:=fun vs H Q _=>∃ (a:Addr) (r u:List Nat),vs=[.ref a]/\ZV H a r u/\Q (.int (r.length:Int)) H
def PM:Sp:=fun vs H Q _=>∃ i n:Int,vs=[.int i,.int n]/\Q (.bl (decide (0<=i/\i<n))) H
theorem Yu:uh "isinstance"=some (.builtin "isinstance"):=by decide +kernel
theorem SU:uh "int"=some (.type "int"):=by decide +kernel
theorem NM:uh "bool"=some (.type "bool"):=by decide +kernel
theorem Wo:uh "tuple"=some (.type "tuple"):=by decide +kernel
theorem QP:uh "list"=some (.type "list"):=by decide +kernel
theorem F3:uh "set"=some (.type "set"):=by decide +kernel
theorem SS:uh "all"=some (.builtin "all"):=by decide +kernel
theorem IP:uh "sorted"=some (.builtin "sorted"):=by decide +kernel
variable{H:Hp}
theorem ZY {H':Hp}{l:Addr}{o:HO}(e:Z8 H H')(h:H l=none):Z8 H (upd H' l o):=fun b u q=>by
 rw[Z5 (ZJ q h)];exact e b u q
theorem UW {α:Type}{l:List α}(h:l.length=2):∃ x y,l=[x,y]:=by
 match l,h with
 | [x,y],_=>exact⟨x,y,Z⟩
variable{K:yS}
theorem Z8.tseq {H':Hp}{a:Addr}{xs:List V}(e:Z8 H H')(h:SqT K H a xs):SqT K H' a xs:=by
 rcases h with (h|⟨o,h⟩)|h;exact .inl (.inl (e _ _ h));exact .inl (.inr ⟨o,e _ _ h⟩);exact .inr h
variable{r:List Nat}
theorem XJ.same {H':Hp}{p:Addr}(e:Z8 H H')(h:XJ K H p r):XJ K H' p r:=h.imp e.seq (Z8.tseq e)
theorem Rp {p:Addr}{n i:Nat}{Q:VK}(h:XJ K H p r)(hr:Row n r)(hi:i<n)(q:Q (.int (nx r i:Int)) H):rIx K (.ref p) (.int (i:Int)) H Q:=by
 rcases h with h|h;exact .inl ⟨p,_,_,_,rfl,rfl,h,ZU (Zd (hr.get hi)),q⟩;exact .inr (.inl ⟨p,_,_,_,rfl,rfl,h,ZU (Zd (hr.get hi)),q⟩)
noncomputable def mu (j:Nat)(σ:St):Nat:=match σ[j]? with
 | some (some (.int k))=>(100-k).toNat
 | _=>0
theorem Oo:∀ (l M:List Nat),(l.foldl put M).length<=M.length+l.length
 | [],M=>yO _
 | x::l,M=>by
  have h1:=Oo l (put M x);have h2:(put M x).length<=M.length+1:=by unfold put;split<;>simp
  simp only[List.foldl_cons,yi];omega
section
variable {X:Cx}{k m:Nat}{f:Addr}{fd:uC}{ps:List Str}{sp:Sp}{x:Str}{st:Stmt}{p pos:Pos}{e:Expr}{es:List Expr}{t:TA}{CX:CXT}{E:XK}
theorem pcx (F:Fn X.K X.mg x st ps f fd)(G:Z6 X.prog X.w X.K X.mg X.base CX k f fd ps sp)(hr:ZK m X.A)(hx:YE CX X E)(ha:PA X (e::es) t)(hk:k<=m:=by decide)(hg:Gl X x:=by rfl)(oQ:(x==("__debug__":Str))=false:=by decide)(he:uB (e::es) X.env=(false,eval e X.env)::uB es X.env:=by rfl)(oJ:(sL pos (uB es X.env)).any (·.1)=false:=by rfl):PE X (.Call (.Name x p) (e::es) [] pos) (YR sp [] E t):=Xi G (hr.mono hk) hg F.m F.F.kp F.b .nil hx ha oQ he oJ
theorem pc0 (F:Fn X.K X.mg x st ps f fd)(G:Z6 X.prog X.w X.K X.mg X.base CX0 k f fd ps sp)(hr:ZK m X.A)(ha:PA X (e::es) t)(hk:k<=m:=by decide)(hg:Gl X x:=by rfl)(oQ:(x==("__debug__":Str))=false:=by decide)(he:uB (e::es) X.env=(false,eval e X.env)::uB es X.env:=by rfl)(oJ:(sL pos (uB es X.env)).any (·.1)=false:=by rfl):PE X (.Call (.Name x p) (e::es) [] pos) (YR sp [] E0 t):=pcx F G hr Y8 ha hk hg oQ he oJ
end
end K1
namespace L2
open PySem PySem.Spec PyProof.Rows
section
variable {X:Cx}{o i value:Expr}{pos pos':Pos}{to ti tv:TE}
def zN (to ti tv:TE):TS:=fun D σ H=>tv σ H fun v H1=>to σ H1 fun x H2=>ti σ H2 fun y H3=>Ke x y v H3 fun H4=>D.nx σ H4
theorem LP (ho:PE X o to)(hi:PE X i ti)(hv:PE X value tv)(hs:rW value (some (.Subscript o i pos')) pos.line X.env=pure false):PS X (.Assign [.Subscript o i pos'] value pos) (zN to ti tv):=by
 intro pins s σ H D I h;refine qq (thn (hv pins s σ H _ I h) fun r s1 ⟨v,H1,I1,rv,q1⟩=>thn (ho pins s1 σ H1 _ I1 q1) fun u s2 ⟨x,H2,I2,rx,q2⟩=>thn (hi pins s2 σ H2 _ I2 q2) fun iv s3 ⟨y,H3,I3,ry,q3⟩=>?_) hs;exact thn (EE pins s3 σ H3 x y v u iv r _ I3 rx ry rv q3) fun _ s4 ⟨H4,I4,q4⟩=>⟨σ,H4,I4,q4⟩
theorem PI.or {tg iter:Expr}{w1 w2:TI}(h1:PI X tg iter w1)(h2:PI X tg iter w2):PI X tg iter (fun σ H R=>w1 σ H R\/w2 σ H R):=by
 intro pins s σ H R I h;rcases h with h|h;exact h1 pins s σ H R I h;exact h2 pins s σ H R I h
end
end L2
namespace K1
open PySem L2 Sq
theorem Ky (xs:List Nat)(j x:Nat):(nv xs).set j (.int (x:Int))=nv (xs.set j x):=by
 unfold nv;rw[List.map_set]
variable{n:Nat}{r:List Nat}
theorem NU {bl:List Nat}(rr:Row n r)(hl:bl.length=n)(h:∀ k,k<n->bl[nx r k]?=some k):bl=back r:=by
 refine List.ext_getElem? fun x=>?_;by_cases hx:x<n;have e:=h (r.idxOf x) (rr.idx_lt hx);rw[rr.nx_idx hx]at e;rw[e,rr.back.get hx,X2 rr hx];rw[xO (by omega),xO (by rw[UF,rr.len];omega)]
variable {P:uE}{w:uw}{K:yS}{mg:Str->Option uT}{base:Heap}
theorem CA:ZT ["sheet"] ["sheet"] (Z2 WC):=fsc (by decide +kernel)
variable{f:Addr}{fd:uC}
theorem El (T:Bi mg)(F:Fn K mg "size" WC ["sheet"] f fd):Z6 P w K mg base CX0 1 f fd ["sheet"] Vl:=by
 refine F.F.ok CA (fun vs H Q E h=>?_) (fun pK A outer s H vs Q E hr h=>?_);obtain⟨a,r,u,rfl,_⟩:=h;rfl;obtain⟨a,r,u,rfl,⟨p,q,h1,h2,h3⟩,k⟩:=h;refine⟨_,Z3 (ZR (ZM Zj (by rfl) T.len uD (Z9 (pj Zp (pv 0) Z1) Z7))),?_⟩;refine⟨_,Z,a,_,0,_,Z,Z,SqT.of h1,ZU (j:=0) Z,p,_,Z,.inr (SqT.of h2),?_⟩;rw[Zs];exact k
theorem AA:ZT ["thing","squares"] ["thing","squares"] (Z2 Wz):=fsc (by decide +kernel)
theorem Az:ZT ["thing"] ["thing"] (Z2 Wl):=fsc (by decide +kernel)
theorem C9 (T:Bi mg)(F:Fn K mg "is_whole" Wl ["thing"] f fd):Z6 P w K mg base CX0 1 f fd ["thing"] LL:=by
 refine F.F.ok Az (fun vs H Q E h=>?_) (fun pK A outer s H vs Q E hr h=>?_);obtain⟨i,rfl,_⟩:=h;rfl;obtain⟨i,rfl,k⟩:=h;refine⟨_,Z3 (ZR (X0 (ZM Th (by rfl) T.isin Yu (Z9 (pv 0) (Z9 (Uo (v:=.ty "int") (by rfl) T.int SU Z) Z7)))
  (Xx (KZ (ZM Th (by rfl) T.isin Yu (Z9 (pv 0) (Z9 (Uo (v:=.ty "bool") (by rfl) T.bool NM Z) Z7))))))),?_⟩
 refine⟨_,Z,_,_,_,_,Z,.int i,Og K,_,Z,?_⟩;refine ZP ?_;exact⟨_,Z,_,_,_,_,Z,.int i,Om K,_,Z,k⟩
variable{fw:Addr}{eO:uC}
theorem Ej (T:Bi mg)(F:Fn K mg "is_square" Wz ["thing","squares"] f fd)(FW:Fn K mg "is_whole" Wl ["thing"] fw eO):Z6 P w K mg base CX0 2 f fd ["thing","squares"] PM:=by
 have GW:Z6 P w K mg base CX0 1 fw eO ["thing"] LL:=C9 T FW;refine F.F.ok AA (fun vs H Q E h=>?_) (fun pK A outer s H vs Q E hr h=>?_);obtain⟨i,n,rfl,_⟩:=h;rfl;obtain⟨i,n,rfl,k⟩:=h;refine⟨_,Z3 (ZR (X0 (pc0 FW GW hr (Z9 (pv 0) Z7)) (Xx (VC XX V0 Z1 (pv 0) (pv 1))))),?_⟩;refine⟨_,Z,i,Z,_,Z,?_⟩;refine ZP ?_;refine⟨_,Z,_,_,Z,Z,_,Z,?_⟩;refine YC (fun h=>?_) (fun h=>?_);have h:0<=i:=uF h;refine⟨_,Z,_,_,Z,Z,?_⟩;have e:decide (0<=i/\i<n)=decide (i<n):=by simp[h]
 rw[e]at k;exact k;have h:¬ 0<=i:=fun z=>h (uO z);have e:decide (0<=i/\i<n)=false:=by simp[h]
 rw[e]at k;exact k
noncomputable abbrev SG:Str:="0123456789abcdefghijklmnopqrstuvwxyz"
theorem U4:SG=txt ((yI 36).map sg):=E7
theorem Ue:SG.length=36:=by rw[U4];exact Hf
variable{k:Nat}
theorem BI (h:k<36):atI SG.cps.toList (k:Int)=some (sg k):=by
 refine ZU ?_;have:=GA h;rw[<-U4]at this;rw[<-this];simp
noncomputable def tv (l:List Nat):List V:=l.map fun c=>V.str (txt [c])
theorem CJ (l:List Nat):(tv l).length=l.length:=by simp[tv]
variable{i:Nat}
theorem CV {l:List Nat}{c:Nat}(h:l[i]?=some c):(tv l)[i]?=some (.str (txt [c])):=by simp[tv,h]
theorem DE (l:List Nat):tv l=(l.map fun c=>txt [c]).map V.str:=by simp[tv]
theorem BH (l:List Nat):((l.map fun c=>txt [c]).map (·.length)).sum=l.length:=by
 induction l with
 | nil=>rfl
 | cons c l ih=>simp only[ye,List.sum_cons,yi,ih,ZD];simp;lia
variable{H:Hp}{d:Addr}{Q:VK}
theorem G7 {l:List Nat}(h:H d=some (.lst (tv l)))(hn:l.length<=1000)(q:Q (.str (txt l)) H):JH K (.str (uU "")) [.ref d] H Q:=by
 refine⟨_,d,l.map fun c=>txt [c],Z,Z,.inl (SqL.of (by rw[<-DE];exact h)),?_,?_⟩;rw[BH,yK,QB,ZD];simp;lia;rw[QB,Ir];exact q
variable{Hc:Hp}{j:Nat}{pull:List Nat}{σ:St}
theorem GU {p:Addr}{tz:TE}(hj:σ[j]?=some (some (.ref p)))(hp:SqT K Hc p (nv r)\/SqL K Hc p (nv r))(hr:∀ x∈r,x<36)(hn:r.length<=1000)
  (hz:∀ o H Q,Q (.str SG) H->tz (o::(bst 1 pull σ).tail) H Q)
  (k:∀ (H':Hp) (d:Addr),Z8 Hc H'->H' d=some (.lst (tv (ZA r)))->Q (.ref d) H') :
  YK (fun σ H R=>Rg K (ZN j) σ H R\/Wx K (ZN j) σ H R) 1 pull (ZO 0) (tOp Tr tz (ZN 0)) σ Hc Q:=by
 have core:∀ (J:It),(∀ H3,Z8 Hc H3->(∀ i (hi:i<r.length),J.go i H3/\∀ x H2,J.yld i H3 x H2->H2=H3/\x=.int (r[i]:Int))/\J.stop r.length H3)->∀ d,Hc d=none->
   ∃ W:Nat->Nat->St->Hp->Prop,(∃ m,W 0 m (bst 1 pull σ) (upd Hc d (.lst [])))/\∀ i m σ' H',W i m σ' H'->
    (J.stop i H'/\Q (.ref d) H')\/(J.go i H'/\∀ x H2,J.yld i H' x H2->ZO 0 x σ' H2 fun σ3 H3=>tOp Tr tz (ZN 0) σ3 H3 fun y H4=>∃ xs,H4 d=some (.lst xs)/\xs.length<uR/\∃ m',m'<m/\W (i+1) m' σ3 (upd H4 d (.lst (xs++[y])))):=by
  intro J hJ d hd;refine XB (Q:=fun d H'=>Q (.ref d) H') r.length (tv (ZA r)) (by rw[CJ,YB]) (fun i σ' H3=>∃ o,σ'=o::(bst 1 pull σ).tail/\Z8 Hc H3) ⟨none,rfl,ZY (Z8.refl _) hd⟩ ?_ ?_;rintro i σ' H3 hi ⟨o,rfl,s3⟩ pE;obtain⟨g1,g2⟩:=(hJ H3 s3).1 i hi;refine⟨g1,fun x H4 hy=>?_⟩;obtain⟨e1,e2⟩:=g2 x H4 hy;subst e1 e2;have pJ:=hr _ (xJ hi);refine hz _ _ _ ⟨_,rfl,_,_,sg r[i],rfl,rfl,by rw[Ue];decide,BI pJ,Xc hi hn pE (CV ?_) ⟨_,rfl,ZY s3 hd⟩⟩;unfold ZA;rw[yw,yR hi];rfl;rintro σ' H3 ⟨o,rfl,s3⟩ pE;exact⟨(hJ H3 s3).2,k H3 d s3 pE⟩
 rcases hp with h|h;refine .inl ⟨_,hj,p,rfl,⟨_,h⟩,core _ fun H3 s3=>⟨fun i hi=>⟨⟨_,_,Z8.tseq s3 h,Zd (yR hi)⟩,fun x H2 ⟨e,hy⟩=>⟨e,?_⟩⟩,⟨_,Z8.tseq s3 h,by rw[Zs];exact yO _⟩⟩⟩;have:=hy _ (Z8.tseq s3 h);rw[Zd (yR hi)]at this;exact (uz.inj this).symm;refine .inr ⟨_,hj,p,rfl,⟨_,h⟩,core _ fun H3 s3=>⟨fun i hi=>⟨⟨_,_,s3.seq h,Zd (yR hi)⟩,fun x H2 ⟨e,hy⟩=>⟨e,?_⟩⟩,⟨_,s3.seq h,by rw[Zs];exact yO _⟩⟩⟩;have:=hy _ (s3.seq h);rw[Zd (yR hi)]at this;exact (uz.inj this).symm
variable{X:Cx}
theorem PI.or' {tg iter:Expr}{w1 w2:TI}(h1:PI X tg iter w1)(h2:PI X tg iter w2):PI X tg iter (fun σ H R=>w1 σ H R\/w2 σ H R):=by
 intro pins s σ H R I h;rcases h with h|h;exact h1 pins s σ H R I h;exact h2 pins s σ H R I h
def NR (K:yS):Sp:=fun vs H Q _=>∃ (p:Addr) (r:List Nat),vs=[.ref p]/\(SqT K H p (nv r)\/SqL K H p (nv r))/\(∀ x∈r,x<36)/\r.length<=1000/\∀ H':Hp,Z8 H H'->Q (.str (txt (ZA r))) H'
noncomputable def YT (z:List Nat):Bool:=decide (1<=z.length)&&decide (z.length<=36)&&z.all fun c=>decide (c∈(yI 36).map sg)
def M4:Sp:=fun vs H Q _=>∃ z:List Nat,vs=[.str (txt z)]/\z.length<=1000/\∀ H':Hp,Z8 H H'->Q (.bl (YT z)) H'
noncomputable def XZ:List (List Nat)->Bool
 | [a,b]=>decide (a.length=b.length)&&YT a&&YT b
 | _=>false
noncomputable def wv (ws:List (List Nat)):List V:=ws.map fun z=>V.str (txt z)
def MG (K:yS):Sp:=fun vs H Q _=>∃ (p:Addr) (ws:List (List Nat)),vs=[.ref p]/\SqL K H p (wv ws)/\(∀ z∈ws,z.length<=1000)/\∀ H':Hp,Z8 H H'->Q (.bl (XZ ws)) H'
def Oi:Sp:=fun vs H Q _=>∃ r:List Nat,vs=[.str (txt (ZA r))]/\(∀ x∈r,x<36)/\r.length<=1000/\∀ (H':Hp) (l:Addr),Z8 H H'->H l=none->H' l=some (.lst (nv r))->Q (.ref l) H'
variable{z:List Nat}
theorem Cs {K:yS}(hj:σ[j]?=some (some (.str (txt z))))(hn:z.length<=1000)
  (k:∀ (H':Hp) (d:Addr),Z8 Hc H'->H' d=some (.lst ((z.map fun c=>decide (c∈(yI 36).map sg)).map V.bl))->Q (.ref d) H') :
  YK (TC (ZN j)) 1 [] (ZO 0) (tOp (fun x y H Q=>∃ i j,x=.str i/\y=.str j/\Q (.bl (!(ui j i 0 j.length 1).isEmpty)) H) (ZN 0) (tC (.str SG))) σ Hc Q:=by
 refine⟨_,hj,txt z,Z,fun d hd=>?_⟩;refine XB (Q:=fun d H'=>Q (.ref d) H') z.length ((z.map fun c=>decide (c∈(yI 36).map sg)).map V.bl) (by simp) (fun i σ H3=>∃ o,σ=[o]/\Z8 Hc H3) ⟨none,rfl,ZY (Z8.refl _) hd⟩ ?_ ?_;rintro i σ H3 hi ⟨o,rfl,s3⟩ pE;refine⟨by show i<(txt z).length;rw[ZD];exact hi,fun y H4 ⟨e,c,hc,ey⟩=>?_⟩;subst e ey;rw[Wi]at hc;refine⟨_,Z,_,_,Z,Z,Xc hi hn pE ?_ ⟨_,Z,ZY s3 hd⟩⟩;rw[StrLaws.found_one,U4,Xj];simp[hc];rintro σ H3 ⟨o,rfl,s3⟩ pE;exact⟨by show (txt z).length=_;rw[ZD],k H3 d s3 pE⟩
theorem GJ (hj:σ[j]?=some (some (.str (txt (ZA r)))))(hr:∀ x∈r,x<36)(hn:r.length<=1000)
  (k:∀ (H':Hp) (d:Addr),Z8 Hc H'->Hc d=none->H' d=some (.lst (nv r))->Q (.ref d) H') :
  YK (TC (ZN j)) 1 [] (ZO 0) (tBM K "str" P6 (tC (.str SG)) (ZL (ZN 0) ZG)) σ Hc Q:=by
 refine⟨_,hj,txt (ZA r),Z,fun d hd=>?_⟩;refine XB (Q:=fun d H'=>Q (.ref d) H') r.length (nv r) (Zs r) (fun i σ H3=>∃ o,σ=[o]/\Z8 Hc H3) ⟨none,rfl,ZY (Z8.refl _) hd⟩ ?_ ?_;rintro i σ H3 hi ⟨o,rfl,s3⟩ pE;refine⟨by show i<(txt _).length;rw[ZD,YB];exact hi,fun y H4 ⟨e,c,hc,ey⟩=>?_⟩;subst e ey;rw[Wi]at hc;have hc:c=sg r[i]:=by
  unfold ZA at hc;rw[yw,yR hi]at hc;exact (uz.inj hc).symm
 subst hc;have pJ:=hr _ (xJ hi);refine⟨Z,_,Z,SG,txt [sg r[i]],r[i],[],Z,Z,?_,Xc hi hn pE (Zd (yR hi)) ⟨_,Z,ZY s3 hd⟩⟩;rw[Ue,U4];exact M9 _ (yL.mpr pJ);rintro σ H3 ⟨o,rfl,s3⟩ pE;exact⟨by show (txt _).length=_;rw[ZD,YB],k H3 d s3 hd pE⟩
theorem Gh:ZT ["row"] ["row"] (Z2 UI):=fsc (by decide +kernel)
theorem ndSq:(["square"]:List Str).Nodup:=by decide +kernel
theorem ndSi:(["sign"]:List Str).Nodup:=by decide +kernel
variable{tS:Tok}
theorem HX (hS:mg "SIGNS"=some (.str SG tS))(F:Fn K mg "signs_of" UI ["row"] f fd):Z6 P w K mg base CX0 1 f fd ["row"] (NR K):=by
 refine F.F.ok Gh (fun vs H Q E h=>?_) (fun pK A outer s H vs Q E hr h=>?_);obtain⟨p,r,rfl,_⟩:=h;rfl;obtain⟨p,r,rfl,hp,pJ,hn,k⟩:=h;refine⟨_,Z3 (ZR (Yz tw PySem.F.slot_str_join PySem.F.type_str_join D6 ZQ (Z9
  (X4 (N:=["row"]) (names:=(Z2 UI).names) (N':=["square"]) (k:=1) (pull:=[]) (te:=tOp Tr (tC (.str SG)) (ZN 0)) rfl
   (bsc (by decide +kernel)) Z Z (PI.or' (Vn (pv 0)) (XC (pv 0))) (fun _ _ _ _ _ _=>Zy (i:=0) ndSq Z (ug Z))
   (fun _ _ _ _ _ _=>OP KY (Zv (v:=.str SG) (by rfl) hS ⟨_,Z⟩) (pv 0) (fun _ _=>rfl))) Z7))),?_⟩
 refine⟨Z,?_⟩;dsimp only [ZL,ZG];refine GU rfl hp pJ hn (fun _ _ _ q=>q) fun H1 d s1 hd=>?_;exact G7 hd (by rw[YB];exact hn) (k H1 s1)
theorem EC:ZT ["word"] ["word"] (Z2 Uw):=fsc (by decide +kernel)
theorem WL (h:n<=1000):n<=uR:=wK (YN h)
theorem Im {α:Type}(p:α->Bool)(l:List α):(l.map p).all id=l.all p:=by rw[List.all_map];rfl
theorem HL (T:Bi mg)(hS:mg "SIGNS"=some (.str SG tS))(F:Fn K mg "is_word" Uw ["word"] f fd):Z6 P w K mg base CX0 1 f fd ["word"] M4:=by
 refine F.F.ok EC (fun vs H Q E h=>?_) (fun pK A outer s H vs Q E hr h=>?_);obtain⟨z,rfl,_⟩:=h;rfl;obtain⟨z,rfl,hn,k⟩:=h;refine⟨_,Z3 (ZR (X0 (VC XX XX Z1 (ZM Wq (by rfl) T.len uD (Z9 (pv 0) Z7)) (ZM Wq (by rfl) T.len uD (Z9 (Zv (v:=.str SG) (by rfl) hS ⟨_,Z⟩) Z7)))
  (Xx (ZM (Tj Z) (by rfl) T.all SS (Z9
  (X4 (N:=["word"]) (names:=(Z2 Uw).names) (N':=["sign"]) (k:=1) (pull:=[]) (te:=tOp (fun x y H Q=>∃ i j,x=.str i/\y=.str j/\Q (.bl (!(ui j i 0 j.length 1).isEmpty)) H) (ZN 0) (tC (.str SG))) rfl
   (bsc (by decide +kernel)) Z Z (Vi (pv 0)) (fun _ _ _ _ _ _=>Zy (i:=0) ndSi Z (ug Z))
   (fun _ _ _ _ _ _=>YW QH (pv 0) (Zv (v:=.str SG) (by rfl) hS ⟨_,Z⟩) (by with_unfolding_all rfl))) Z7))))),?_⟩
 refine⟨_,Z,_,Z,by rw[ZD];exact WL hn,_,_,Z,Z,_,Z,?_⟩;rw[ZD];have k':∀ b,YT z=b->∀ H',Z8 H H'->Q (.bl b) H':=fun b e H' s'=>by rw[<-e];exact k H' s'
 refine YC (fun h1=>?_) (fun h1=>?_);have h1:(1:Int)<=(z.length:Int):=uF h1;refine⟨_,Z,by rw[Ue];decide,_,_,Z,Z,_,Z,?_⟩;rw[Ue];refine YC (fun h2=>?_) (fun h2=>?_);have h2:(z.length:Int)<=((36:Nat):Int):=uF h2;dsimp only [tCB,ZL,ZG];refine Cs (K:=K) rfl hn fun H1 d s1 hd=>?_;refine⟨d,_,Z,SqL.of hd,k' _ ?_ H1 s1⟩;unfold YT;rw[uO (show 1<=z.length by lia),uO (show z.length<=36 by lia),Im];rfl;have h2:¬ (z.length:Int)<=((36:Nat):Int):=fun e=>h2 (uO e);refine k' false ?_ H (Z8.refl H);unfold YT;rw[uJ (show ¬ z.length<=36 by lia)];simp;have h1:¬ (1:Int)<=(z.length:Int):=fun e=>h1 (uO e);refine⟨_,Z,?_⟩;refine ZZ ?_;refine k' false ?_ H (Z8.refl H);unfold YT;rw[uJ (show ¬ 1<=z.length by lia)];simp
theorem F5:ZT ["words"] ["words"] (Z2 Sn):=fsc (by decide +kernel)
theorem Ck (ws:List (List Nat)):(wv ws).length=ws.length:=by simp[wv]
theorem G5 (T:Bi mg)(F:Fn K mg "is_pair" Sn ["words"] f fd)(FW:Fn K mg "is_word" Uw ["word"] fw eO)(GW:Z6 P w K mg base CX0 1 fw eO ["word"] M4) :
  Z6 P w K mg base CX0 2 f fd ["words"] (MG K):=by
 refine F.F.ok F5 (fun vs H Q E h=>?_) (fun pK A outer s H vs Q E hr h=>?_);obtain⟨p,ws,rfl,_⟩:=h;rfl
 ·obtain⟨p,ws,rfl,hp,hn,k⟩:=h;refine⟨_,Z3 (ZR (X0 (YW Zz (ZM Zj (by rfl) T.len uD (Z9 (pv 0) Z7)) Z1 (YA _))
   (X0 (YW Zz (ZM Wq (by rfl) T.len uD (Z9 (pj ZF (pv 0) Z1) Z7)) (ZM Wq (by rfl) T.len uD (Z9 (pj ZF (pv 0) Z1) Z7)) (YA _))
   (X0 (pc0 FW GW hr (Z9 (pj ZF (pv 0) Z1) Z7))
   (Xx (pc0 FW GW hr (Z9 (pj ZF (pv 0) Z1) Z7))))))),?_⟩
  refine⟨_,Z,p,_,Z,.inl hp,Z,_,Z,?_⟩;have k':∀ b,XZ ws=b->∀ H',Z8 H H'->Q (.bl b) H':=fun b e H' s'=>by rw[<-e];exact k H' s'
  refine YC (fun h1=>?_) (fun h1=>?_);have h1:ws.length=2:=by
   have:=V.int.inj (uF h1);rw[Ck]at this;lia
  obtain⟨a,b,rfl⟩:=UW h1;have ha:=hn a (by simp);have hb:=hn b (by simp);refine⟨_,Z,p,_,0,_,Z,Z,hp,ZU (j:=0) Z,_,Z,by rw[ZD];exact WL ha,_,Z,p,_,1,_,Z,Z,hp,ZU (j:=1) Z,_,Z,by rw[ZD];exact WL hb,Z,_,Z,?_⟩;rw[ZD,ZD];refine YC (fun h2=>?_) (fun h2=>?_);have h2:a.length=b.length:=by have:=V.int.inj (uF h2);lia
  refine⟨_,Z,p,_,0,_,Z,Z,hp,ZU (j:=0) Z,a,Z,ha,fun H1 s1=>?_⟩;refine⟨_,Z,?_⟩;refine YC (fun h3=>?_) (fun h3=>?_);refine⟨_,Z,p,_,1,_,Z,Z,s1.seq hp,ZU (j:=1) Z,b,Z,hb,fun H2 s2=>?_⟩;refine k' _ ?_ H2 (s1.trans s2);show (decide (a.length=b.length)&&YT a&&YT b)=_;rw[uO h2,h3];rfl;refine k' false ?_ H1 s1;show (decide (a.length=b.length)&&YT a&&YT b)=_;rw[Bool.not_eq_true]at h3;rw[h3];simp;have h2:¬ a.length=b.length:=fun e=>h2 (by rw[e];exact uO rfl);refine k' false ?_ H (Z8.refl H);show (decide (a.length=b.length)&&YT a&&YT b)=_;rw[uJ h2];simp
  ·refine k' false ?_ H (Z8.refl H);unfold XZ;split
   ·rename_i a b;exact absurd (uO (by rfl)) h1
   rfl
theorem IH:ZT ["word"] ["word"] (Z2 US):=fsc (by decide +kernel)
theorem Jd (hS:mg "SIGNS"=some (.str SG tS))(F:Fn K mg "squares_of" US ["word"] f fd):Z6 P w K mg base CX0 1 f fd ["word"] Oi:=by
 refine F.F.ok IH (fun vs H Q E h=>?_) (fun pK A outer s H vs Q E hr h=>?_);obtain⟨r,rfl,_⟩:=h;rfl;obtain⟨r,rfl,pJ,hn,k⟩:=h;refine⟨_,Z3 (ZR (X4 (N:=["word"]) (names:=(Z2 US).names) (N':=["sign"]) (k:=1) (pull:=[]) (te:=tBM K "str" P6 (tC (.str SG)) (ZL (ZN 0) ZG)) rfl
   (bsc (by decide +kernel)) Z Z (Vi (pv 0)) (fun _ _ _ _ _ _=>Zy (i:=0) ndSi Z (ug Z))
   (fun _ _ _ _ _ _=>Yz tw PySem.F.slot_str_index PySem.F.type_str_index Nr (Zv (v:=.str SG) (by rfl) hS ⟨_,Z⟩) (Z9 (pv 0) Z7)))),?_⟩
 exact GJ rfl pJ hn fun H1 d s1 h0 hd=>k H1 d s1 h0 hd
noncomputable def Tz (m:Int):List (Str×V):=Zl "many" (.int m) []
theorem Ma (m:Int):(Tz m).lookup ("many":Str)=some (.int m):=by unfold Tz;rw[Xp,uK rfl]
def D1 (C:Addr)(H:Hp)(a:Addr)(m:Int):Prop:=∃ dx,H a=some (.ins C dx (Tz m))
def S6:Sp:=fun vs H Q _=>∃ (p:Addr) (n:Nat) (r:List Nat),vs=[.ref p]/\H p=some (.tup (nv r))/\Row n r/\n<=36/\∀ (H':Hp) (l:Addr),Z8 H H'->H' l=some (.tup (nv (back r)))->Q (.ref l) H'
theorem S7:ZT ["row","back","square","target"] ["row"] (Z2 XF):=fsc (by decide +kernel)
theorem Iw (T:Bi mg)(F:Fn K mg "back_row" XF ["row"] f fd):Z6 P w K mg base CX0 1 f fd ["row"] S6:=by
 refine F.F.ok S7 (fun vs H Q E h=>?_) (fun pK A outer s H vs Q E hr h=>?_);obtain⟨p,n,r,rfl,_⟩:=h;rfl;obtain⟨p,n,r,rfl,hp,rr,hn,k⟩:=h;refine⟨_,Z4 (pz S7 1 (Y0 QV Z T.list QP (Z9 (pv 0) Z7)))
  (Z4 (Yd uf Z (MF Z T.enum (Z9 (pv 0) Z7)) (R7 Z (X7 (Zy (i:=2) S7.nd Z (ug Z)) (X7 (Zy (i:=3) S7.nd Z (ug Z)) Vu)))
   (Z3 (LP (pv 1) (pv 3) (pv 2) Z)))
  (Z3 (ZR (Y0 VM Z T.tuple Wo (Z9 (pv 1) Z7))))),?_⟩
 refine⟨_,Z,p,_,Z,.inr (SqT.of hp),fun lb ck=>?_⟩;have s1:Z8 H (upd H lb (.lst (nv r))):=ZY (Z8.refl H) ck;refine⟨_,Z,p,Z,⟨_,SqT.of (s1 _ _ hp)⟩,Pp (xs:=nv r) (fun i σ H2=>∃ o2 o3 bl,σ=[some (.ref p),some (.ref lb),o2,o3]/\Z8 H H2/\H2 lb=some (.lst (nv bl))/\bl.length=n/\∀ k,k<i->bl[nx r k]?=some k)
  ⟨_,_,r,Z,s1,Z0,rr.len,fun k hk=>absurd hk (xM _)⟩ (fun i σ H2 _ ⟨_,_,_,_,s2,_⟩=>SqT.of (s2 _ _ hp)) ?_ ?_⟩
 rintro i x σ H2 T' hx hT ⟨o2,o3,bl,rfl,s2,h2,kH,ph⟩;obtain⟨y,hy,rfl⟩:=Uy hx;have hi:i<n:=by rw[<-rr.len];exact (yP.mp hy).1
 have ey:y=nx r i:=by have:=rr.get hi;rw[hy]at this;exact uz.inj this
 have gG:y<n:=by rw[ey];exact rr.nlt hi
 have h2':(upd H2 T' (Ya T' [.int (i:Int),.int (y:Int)])) lb=some (.lst (nv bl)):=by rw[Z5 (ZJ h2 hT)];exact h2
 refine⟨T',_,Z,Z0,Z,_,_,Z,_,_,Z,Z,?_⟩;refine⟨_,Z,_,Z,_,Z,lb,_,_,y,Z,Z,h2',?_,?_⟩;unfold ixN;rw[uK (by omega),uK (by rw[Zs,kH];omega)];simp;refine⟨_,_,bl.set y i,Z,ZY (ZY s2 (s2.free hT)) ck,by rw[Z0,Ky],by rw[List.length_set];exact kH,fun k hk=>?_⟩;rcases yb k i with c|c;have pC:y≠nx r k:=fun z=>by
  rw[ey]at z;have:=rr.inj hi (by omega) z;omega
 rw[wV pC];exact ph k c;have:k=i:=by omega
 subst this;rw[<-ey,xh (by rw[kH];exact gG)];rintro σ H2 ⟨o2,o3,bl,rfl,s2,h2,kH,ph⟩;rw[Zs,rr.len]at ph;have e:=NU rr kH ph;subst e;refine⟨_,Z,lb,_,Z,.inl ⟨SqL.of h2,fun l hl=>k _ l (ZY s2 (s2.free hl)) Z0⟩⟩
structure DTx (K:yS)(C:Addr):Prop where
 cl:Cls K C
 nM:YG K C "many"
def Uj (C:Addr):Sp:=fun vs H Q _=>∃ (p dx:Addr) (m:Int),vs=[.ref p,.int m]/\H p=some (.ins C dx [])/\∀ H':Hp,(∀ x,x≠p->H' x=H x)->D1 C H' p m->Q .non H'
variable{C dx:Addr}{m:Int}{E:XK}
theorem mkD1 {x:Addr}{R:VK}(nx:H x=none)(ka:H dx=none)(k:∀ H':Hp,Z8 H H'->D1 C H' x m->R .non H') :
  Uj C [.ref x,.int m] (upd (upd H dx (.own x)) x (.ins C dx [])) R E:=by
 refine⟨x,dx,m,Z,Z0,fun H' s P=>k H' (fun c o e=>?_) P⟩;rw[s c (ZJ e nx),Z5 (ZJ e nx),Z5 (ZJ e ka)];exact e
theorem SJ:uh "str"=some (.type "str"):=by decide +kernel
theorem C5 (h:m.natAbs<=1000):m.natAbs.log2<1000:=by
 by_cases z:m.natAbs=0;rw[z];decide;exact (uW z).mpr (xI h (by decide +kernel))
noncomputable abbrev Qe:Stmt:=Yq Kv 0
noncomputable abbrev Qh:Stmt:=Yq JT 0
theorem HQ:ZT ["self","many"] ["self","many"] (Z2 Qe):=fsc (by decide +kernel)
theorem Gs (T:DTx K C)(F:Fun K "__init__" "Shear.__init__" Qe f fd):Z6 P w K mg base CX0 1 f fd ["self","many"] (Uj C):=by
 refine F.ok HQ (fun vs H Q E h=>?_) (fun pK A outer s H vs Q E hr h=>?_);obtain⟨p,dx,m,rfl,_⟩:=h;rfl;obtain⟨p,dx,m,rfl,hp,k⟩:=h;refine⟨_,Z3 (WI (pv 0) (pv 1) Z),?_⟩;refine⟨_,Z,_,Z,p,C,dx,[],Z,hp,T.cl,T.nM,(by show 0<1000;decide),?_⟩;exact k _ (fun x hx=>by rw[Z5 hx]) ⟨dx,Z0⟩
theorem Hw:ZT ["self","many"] ["self","many"] (Z2 Qh):=fsc (by decide +kernel)
theorem G2 (T:DTx K C)(F:Fun K "__init__" "Turn.__init__" Qh f fd):Z6 P w K mg base CX0 1 f fd ["self","many"] (Uj C):=by
 refine F.ok Hw (fun vs H Q E h=>?_) (fun pK A outer s H vs Q E hr h=>?_);obtain⟨p,dx,m,rfl,_⟩:=h;rfl;obtain⟨p,dx,m,rfl,hp,k⟩:=h;refine⟨_,Z3 (WI (pv 0) (pv 1) Z),?_⟩;refine⟨_,Z,_,Z,p,C,dx,[],Z,hp,T.cl,T.nM,(by show 0<1000;decide),?_⟩;exact k _ (fun x hx=>by rw[Z5 hx]) ⟨dx,Z0⟩
noncomputable abbrev FG:Str:="0123456789"
theorem Ap:FG=txt ((yI 10).map (48 + ·)):=by decide +kernel
theorem DI {K:yS}{S:Str}(hj:σ[j]?=some (some (.str (txt z))))(hn:z.length<=1000)
  (k:∀ (H':Hp) (d:Addr),Z8 Hc H'->H' d=some (.lst ((z.map fun c=>decide (c∈S.cps.toList)).map V.bl))->Q (.ref d) H') :
  YK (TC (ZN j)) 1 [] (ZO 0) (tOp (fun x y H Q=>∃ i j,x=.str i/\y=.str j/\Q (.bl (!(ui j i 0 j.length 1).isEmpty)) H) (ZN 0) (tC (.str S))) σ Hc Q:=by
 refine⟨_,hj,txt z,Z,fun d hd=>?_⟩;refine XB (Q:=fun d H'=>Q (.ref d) H') z.length ((z.map fun c=>decide (c∈S.cps.toList)).map V.bl) (by simp) (fun i σ H3=>∃ o,σ=[o]/\Z8 Hc H3) ⟨none,rfl,ZY (Z8.refl _) hd⟩ ?_ ?_;rintro i σ H3 hi ⟨o,rfl,s3⟩ pE;refine⟨by show i<(txt z).length;rw[ZD];exact hi,fun y H4 ⟨e,c,hc,ey⟩=>?_⟩;subst e ey;rw[Wi]at hc;refine⟨_,Z,_,_,Z,Z,Xc hi hn pE ?_ ⟨_,Z,ZY s3 hd⟩⟩;rw[StrLaws.found_one];simp[hc];rintro σ H3 ⟨o,rfl,s3⟩ pE;exact⟨by show (txt z).length=_;rw[ZD],k H3 d s3 pE⟩
theorem CC (z:List Nat):(fg z).length<=z.length:=by unfold fg;split<;>simp
noncomputable def sv (ws:List (List Nat)):List V:=ws.map fun z=>V.str (txt z)
theorem RM (ws:List (List Nat)):(sv ws).length=ws.length:=by simp[sv]
theorem LY (ws:List (List Nat)):(ws.map txt).map V.str=sv ws:=by simp[sv]
variable{ws:List (List Nat)}
theorem K2 (h:ws[i]?=some z):(sv ws)[i]?=some (.str (txt z)):=by unfold sv;rw[yw,h];rfl
variable{te:TE}{D:Zc}
theorem Bn {g:TG}{rest:L2.TS}{v:V}(h:∀ R:VK,R v H->te σ H R)(k:g v σ H (rest D)):Yw (Yj te g) rest D σ H:=h _ k
noncomputable abbrev n_ne:List Str:=["fits"]
theorem zo:ZT n_ne ["fits"] (Z2 Wd):=fsc (by decide +kernel)
noncomputable abbrev n_ni:List Str:=["word","figures","number"]
theorem O9:ZT n_ni ["word"] (Z2 VH):=fsc (by decide +kernel)
theorem Ad:(["figure"]:List Str).Nodup:=by decide +kernel
def TZ (CR:Addr):Sp:=fun vs H Q E=>∃ b:Bool,vs=[.bl b]/\(b=true->Q .non H)/\(b=false->E (.ref CR) none H)
noncomputable def Zw (z:List Nat):Option Int:=
 if 1<=(fg z).length/\(fg z).length<=3/\(fg z).all (fun c=>decide (48<=c/\c<=57))=true then
  match intText? (txt z) with
  | some n=>if dg n=z then some n else none
  | none=>none
 else none
def Rw (CR:Addr):Sp:=fun vs H Q E=>∃ z:List Nat,vs=[.str (txt z)]/\z.length<=100/\(∀ m:Int,Zw z=some m->m.natAbs<=999->∀ H':Hp,Z8 H H'->Q (.int m) H')/\(Zw z=none->∀ H':Hp,Z8 H H'->E (.ref CR) none H')
variable{CR:Addr}
theorem AY (hC:Zk K CR)(hm:mg "NoRow"=some (.ref CR))(F:Fn K mg "need" Wd ["fits"] f fd):Z6 P w K mg base (CX1 P w) 1 f fd ["fits"] (TZ CR):=by
 refine F.F.ok1 zo (fun vs H Q E h=>?_) (fun pK A outer s H vs Q E hr h=>?_);obtain⟨b,rfl,_⟩:=h;rfl
 ·obtain⟨b,rfl,k1,k2⟩:=h;refine⟨_,Z3 (ZI (Xv (Yo (pv 0))) (Z3 (Ys Z hC Z hm Yp (Z9 ZQ Z7))) ZH),?_⟩;cases b with
  | true=>exact⟨_,Z,_,Z,ZZ (k1 Z)⟩
  | false=>exact⟨_,Z,_,Z,ZP ⟨by show 1<=uR;decide,k2 Z⟩⟩
variable{dn:uC}
theorem AL {fn:Addr}{tF tM:Tok}(T:Bi mg)(Ts:mg "str"=none)(oM:mg "FIGURES"=some (.str FG tF))(fJ:mg "MOST_FIGURES"=some (.int 3 tM))(lN:Fn K mg "need" Wd ["fits"] fn dn)(lO:Z6 P w K mg base (CX1 P w) 1 fn dn ["fits"] (TZ CR))(F:Fn K mg "number_in" VH ["word"] f fd):Z6 P w K mg base (CX1 P w) 2 f fd ["word"] (Rw CR):=by
 refine F.F.ok1 O9 (fun vs H Q E h=>?_) (fun pK A outer s H vs Q E hr h=>?_);obtain⟨z,rfl,_⟩:=h;rfl
 ·obtain⟨z,rfl,hz,k1,k2⟩:=h;refine⟨_,(Z4 (pz O9 1 (M7 (Yo (Yz tw PySem.F.slot_str_startswith PySem.F.type_str_startswith Hu (pv 0) (Z9 ZQ Z7))) (SW KB (pv 0) (Us Z1) Qc) (pv 0)))
   (Z4 (Zq (pcx lN lO hr (Zx fun _ _ _ z=>z) (Z9 (X0 (VC XX XX Z1 (ZM Wq (by rfl) T.len uD (Z9 (pv 1) Z7)) (Zv (v:=.int 3) (by rfl) fJ ⟨_,Z⟩)) (Xx (ZM (Tj Z) (by rfl) T.all SS (Z9 (X4 (N:=n_ni) (names:=(Z2 VH).names) (N':=["figure"]) (k:=1) (pull:=[]) (te:=tOp (fun x y H Q=>∃ i j,x=.str i/\y=.str j/\Q (.bl (!(ui j i 0 j.length 1).isEmpty)) H) (ZN 0) (tC (.str FG))) Z (bsc (by decide +kernel)) Z Z (Vi (pv 1)) (fun _ _ _ _ _ _=>Zy (i:=0) Ad Z (ug Z)) (fun _ _ _ _ _ _=>YW QH (pv 0) (Zv (v:=.str FG) (by rfl) oM ⟨_,Z⟩) (by with_unfolding_all rfl))) Z7)))) Z7)))
   (Z4 (pz O9 2 (Y0 Jh Z T.int SU (Z9 (pv 0) Z7)))
   (Z4 (Zq (pcx lN lO hr (Zx fun _ _ _ z=>z) (Z9 (YW Zz (Y0 Wp Z Ts SJ (Z9 (pv 2) Z7)) (pv 0) (YA _)) Z7)))
   (Z3 (ZR (pv 2))))))),?_⟩
  have big:1000<=uR:=by decide
  have hfl:=CC z;refine Bn (v:=.str (txt (fg z))) ?_ ?_;intro R hR;refine⟨_,Z,Z,txt z,_,Z,Z,_,Z,?_⟩;rw[IT];unfold fg at hR;by_cases e:z.head?=some 45;rw[uO e];rw[uK e]at hR;have ag:1<=z.length:=by cases z with|nil=>cases e|cons a l=>simp
  refine ZP ⟨_,rfl,_,rfl,_,rfl,?_,?_⟩;rw[Lo ag,ZD,List.length_drop];lia;rw[Lo ag];exact hR;rw[uJ e];rw[uL e]at hR;exact ZZ ⟨_,rfl,hR⟩;dsimp only [ZO];have no:∀ {H':Hp},¬ (1<=(fg z).length/\(fg z).length<=3/\(fg z).all (fun c=>decide (48<=c/\c<=57))=true)->Z8 H H'->E (.ref CR) none H':=fun {H'} hn s'=>k2 (by unfold Zw;rw[uL hn]) H' s';refine⟨_,Z,_,Z,by rw[ZD];lia,_,_,Z,Z,_,Z,?_⟩;rw[ZD];by_cases h1:1<=(fg z).length
  case neg=>
   rw[uJ (show ¬ (1:Int)<=((fg z).length:Int) by lia)];refine ZZ ?_;exact⟨_,Z,false,Z,nofun,fun _=>no (fun q=>h1 q.1) (Z8.refl _)⟩
  rw[uO (show (1:Int)<=((fg z).length:Int) by lia)];refine ZP ⟨_,_,rfl,rfl,_,rfl,?_⟩;by_cases h3:(fg z).length<=3
  case neg=>
   rw[uJ (show ¬ ((fg z).length:Int)<=3 by lia)];refine ZZ ?_;exact⟨false,Z,nofun,fun _=>no (fun q=>h3 q.2.1) (Z8.refl _)⟩
  rw[uO (show ((fg z).length:Int)<=3 by lia)];refine ZP ?_;dsimp only [tCB,ZL,ZG];refine DI (K:=K) rfl (by lia) fun H1 d s1 hd=>?_;have eA:((fg z).map fun c=>decide (c∈FG.cps.toList)).all id=(fg z).all (fun c=>decide (48<=c/\c<=57)):=by
   rw[List.all_map];congr 1;funext c;show decide (c∈FG.cps.toList)=decide (48<=c/\c<=57);rw[Ap,Xj];refine sI.mpr ⟨fun hc=>?_,fun hc=>?_⟩;obtain⟨k,hk,rfl⟩:=yE.mp hc;have:=yL.mp hk;lia;exact yE.mpr ⟨c-48,yL.mpr (by lia),by lia⟩
  refine⟨d,_,Z,SqL.of hd,?_⟩;rw[eA];by_cases hf:(fg z).all (fun c=>decide (48<=c/\c<=57))=true
  case neg=>
   exact⟨false,by rw[wy.mpr hf];rfl,nofun,fun _=>no (fun q=>hf q.2.2) s1⟩
  obtain⟨n,hn,hn9⟩:=Lx h1 h3 fun c hc=>uF (yn.mp hf c hc);refine⟨true,by rw[hf];rfl,fun _=>?_,nofun⟩;refine⟨_,Z,txt z,n,Z,hn,by rw[ZD];lia,?_⟩;dsimp only [ZO];have eN:Zw z=if dg n=z then some n else none:=by unfold Zw;rw[uK ⟨h1,h3,hf⟩,hn]
  refine⟨_,Z,n,Z,vg (C5 (by lia)) (by decide),_,Z,Z,decide (dg n=z),?_,fun he=>?_,fun he=>?_⟩
  ·show [V.bl (decide (V.str (uU (toString n))=V.str (txt z)))]=_;rw[<-Pl];congr 2;refine sI.mpr ⟨fun q=>Wj (V.str.inj q),fun q=>by rw[q]⟩
  have he:=uF he;exact⟨_,Z,k1 n (by rw[eN,uK he]) hn9 H1 s1⟩;have he:=rS he;exact k2 (by rw[eN,uL he]) H1 s1
noncomputable abbrev Vm:Stmt:=Yq OY 0
theorem zp:¬ (("top":Str)="bottom"):=by decide +kernel
noncomputable def VW (t b:Int):List (Str×V):=Zl "bottom" (.int b) (Zl "top" (.int t) [])
theorem Qt (t b:Int):(VW t b).lookup ("top":Str)=some (.int t):=by
 unfold VW;rw[Xp,uL zp,Xp,uK rfl]
theorem QC (t b:Int):(VW t b).lookup ("bottom":Str)=some (.int b):=by
 unfold VW;rw[Xp,uK rfl]
theorem Ly (t b:Int){m:Str}(h1:¬ m="bottom")(h2:¬ m="top"):(VW t b).lookup m=none:=by
 unfold VW;rw[Xp,uL h1,Xp,uL h2]
 all_goals rfl
def YI (C:Addr)(H:Hp)(p:Addr)(t b:Int):Prop:=∃ dx,H p=some (.ins C dx (VW t b))
variable{H':Hp}
theorem YI.same {p:Addr}{t b:Int}(h:YI C H p t b)(s:Z8 H H'):YI C H' p t b:=let ⟨dx,e⟩:=h;⟨dx,s _ _ e⟩
structure PTx (K:yS)(mg:Str->Option uT)(C:Addr):Prop where
 cl:Cls K C
 nT:YG K C "top"
 nB:YG K C "bottom"
 mgC:mg "Part"=some (.ref C)
 kt:yp K (.ref C) (.ref C)=some true
 ha:yD K (.ref C) "__class__"=some (some (.builtin "object.__class__"))
 hn:xC K (.builtin "object.__class__") "__get__"=some (some (.builtin "getset_descriptor.__get__"))
 htk:xj K (.builtin "object.__class__")=some true
 hm:xm K C (.type "object")=some true
def OG:Sp:=fun vs H Q _=>∃ a b:Int,vs=[.int a,.int b]/\Q (.int ((vQ a b:Nat):Int)) H
noncomputable abbrev nCd:List Str:=["one","other","greater","lesser","left_over"]
theorem UY:ZT nCd ["one","other"] (Z2 UU):=fsc (by decide +kernel)
theorem SR:uh "abs"=some (.builtin "abs"):=by decide +kernel
theorem zt (hA:mg "abs"=none)(F:Fn K mg "common_divisor" UU ["one","other"] f fd):Z6 P w K mg base CX0 1 f fd ["one","other"] OG:=by
 refine F.F.ok UY (fun vs H Q E h=>?_) (fun pK A outer s H vs Q E hr h=>?_);obtain⟨a,b,rfl,_⟩:=h;rfl;obtain⟨a,b,rfl,k⟩:=h;refine⟨_,Z4 (pz UY 2 (ZM SL Z hA SR (Z9 (pv 0) Z7)))
  (Z4 (pz UY 3 (ZM SL Z hA SR (Z9 (pv 1) Z7)))
  (Z4 (Vy uf (pq Xb (pv 3) Z1)
   (Z4 (pz UY 4 (Zr Xe (pv 2) (pv 3)))
   (Z4 (pz UY 2 (pv 3))
   (Z3 (pz UY 3 (pv 4))))))
  (Z3 (ZR (pv 2))))),?_⟩
 refine⟨_,Z,_,Z,_,Z,_,Z,?_⟩;have abs:∀ i:Int,(if i<0 then -i else i)=((i.natAbs:Nat):Int):=fun i=>by split<;>omega
 rw[abs a,abs b];refine VA (fun σ H'=>H'=H/\∃ (x y:Nat) (o:Option V),σ=[some (.int a),some (.int b),some (.int (x:Int)),some (.int (y:Int)),o]/\Nat.gcd x y=vQ a b)
  (fun σ _=>match σ with|[_,_,_,some (.int y),_]=>y.natAbs|_=>0) ⟨rfl,_,_,none,rfl,rfl⟩ ?_ ?_
 rintro σ H' ⟨rfl,x,y,o,rfl,hg⟩;refine⟨_,Z,Z,_,Z,?_⟩;refine YC (fun h=>?_) (fun h=>?_);have hy:(y:Int)≠0:=by simpa using h
 refine⟨_,Z,_,Z,_,_,Z,Z,(by show (0:Int)<(y:Int);omega),?_⟩;refine⟨_,Z,_,Z,?_⟩;refine⟨⟨Z,y,x%y,some (.int ((x%y:Nat):Int)),by simp[Int.natCast_emod],?_⟩,?_⟩;rw[<-hg,Nat.gcd_comm x y,Nat.gcd_rec y x,Nat.gcd_comm]
 ·show ((x:Int)%(y:Int)).natAbs<((y:Int)).natAbs;have:=Nat.mod_lt x (show 0<y by omega);rw[<-Int.natCast_emod,Int.natAbs_natCast,Int.natAbs_natCast];exact this
 have hy:(y:Int)=0:=by simpa using h
 have:y=0:=by omega
 subst this;rw[Nat.gcd_zero_right]at hg;refine⟨_,Z,?_⟩;rw[hg];exact k;rintro σ H' Q1 Q2 hq ⟨x,e1,e2,y,e3,e4⟩;exact⟨x,e1,e2,y,e3,hq _ _ e4⟩
def RJ (C CN:Addr):Sp:=fun vs H Q E=>∃ (p dx:Addr) (t b:Int),vs=[.ref p,.int t,.int b]/\H p=some (.ins C dx [])/\Bt 4000 b/\(b=0->E (.ref CN) none H)/\
 (b≠0->∀ H':Hp,(∀ x,x≠p->H' x=H x)->YI C H' p (Yk t b) (YJ t b)->Q .non H')
variable{CN:Addr}
theorem Cb {t b:Int}(hb:b≠0)(hB:Bt 4000 b)(k:∀ (H':Hp) (x:Addr),Z8 H H'->H x=none->YI C H' x (Yk t b) (YJ t b)->Q (.ref x) H')(x dx:Addr)(nx:H x=none)(ka:H dx=none)(ne:dx≠x) :
  RJ C CN [.ref x,.int t,.int b] (upd (upd H dx (.own x)) x (.ins C dx [])) (fun v H2=>v=.non/\Q (.ref x) H2) E:=by
 refine⟨x,dx,t,b,Z,Z0,hB,fun e=>absurd e hb,fun _ H' s P=>⟨Z,k H' x (fun c o e=>?_) nx P⟩⟩;rw[s c (ZJ e nx),Z5 (ZJ e nx),Z5 (ZJ e ka)];exact e
theorem DF {x:Addr}{t b:Int}{R:VK}(hb:b≠0)(hB:Bt 4000 b)(nx:H x=none)(ka:H dx=none)(k:∀ H':Hp,Z8 H H'->YI C H' x (Yk t b) (YJ t b)->R .non H') :
  RJ C CN [.ref x,.int t,.int b] (upd (upd H dx (.own x)) x (.ins C dx [])) R E:=by
 refine⟨x,dx,t,b,Z,Z0,hB,fun e=>absurd e hb,fun _ H' s P=>k H' (fun c o e=>?_) P⟩;rw[s c (ZJ e nx),Z5 (ZJ e nx),Z5 (ZJ e ka)];exact e
noncomputable abbrev nPi:List Str:=["self","top","bottom","divisor"]
theorem Ov:ZT nPi ["self","top","bottom"] (Z2 Vm):=fsc (by decide +kernel)
theorem DP {fg:Addr}{fdg:uC}{dV:uT}(T:PTx K mg C)(hC:Zk K CN)(hN:mg "NoNumber"=some (.ref CN))(F:VU K "__init__" "Part.__init__" Vm dV f fd)
  (FG:Fn K mg "common_divisor" UU ["one","other"] fg fdg) (GG:Z6 P w K mg base CX0 1 fg fdg ["one","other"] OG):Z6 P w K mg base (CX1 P w) 2 f fd ["self","top","bottom"] (RJ C CN):=by
 refine F.ok1 Ov (fun vs H Q E h=>?_) (fun pK A outer s H vs Q E hr h=>?_);obtain⟨p,dx,t,b,rfl,_⟩:=h;rfl;obtain⟨p,dx,t,b,rfl,hp,hB,k1,k2⟩:=h;refine⟨_,Z4 (ZI (pq Zz (pv 2) Z1) (Z3 (Ys Z hC Z hN Yp (Z9 ZQ Z7))) ZH)
  (Z4 (pz Ov 3 (pc0 FG GG hr (Z9 (pv 1) (Z9 (pv 2) Z7))))
  (Z4 (ZI (pq V0 (pv 2) Z1) (Z3 (pz Ov 3 (Va Vj (pv 3)))) ZH)
  (Z4 (WI (pv 0) (Zr Qu (pv 1) (pv 3)) Z)
  (Z3 (WI (pv 0) (Zr Qu (pv 2) (pv 3)) Z))))),?_⟩
 refine⟨_,Z,Z,_,Z,?_⟩;refine YC (fun h=>?_) (fun h=>?_);have:b=0:=by simpa using h
 exact⟨by show 1<=uR;decide,k1 this⟩;have hb:b≠0:=by simpa using h
 refine⟨_,Z,_,Z,t,b,Z,?_⟩;have hd:Bt 4000 (dv t b):=hB.le (by
  have e:=Qn t b
  have:=Ft (t:=t) hb
  have:(dv t b).natAbs<=(YJ t b*dv t b).natAbs:=by rw[Int.mul_comm];exact QQ (by omega)
  rwa [e]at this)
 have rest:∀ d:Int,d=dv t b->Ra K (ZN 0) (tOp (rI (fun _ j=>j≠0/\Bt 4000 j) fun i j=>.int (i.fdiv j)) (ZN 1) (ZN 3)) "top"
   { nx:=fun σ H'=>Ra K (ZN 0) (tOp (rI (fun _ j=>j≠0/\Bt 4000 j) fun i j=>.int (i.fdiv j)) (ZN 2) (ZN 3)) "bottom" { nx:=fun _ H'=>Q .non H',rt:=Q } σ H',rt:=Q } [some (.ref p),some (.int t),some (.int b),some (.int d)] H:=by
  rintro d rfl;refine⟨_,Z,_,Z,_,_,Z,Z,⟨Rv hb,hd⟩,_,Z,p,C,dx,[],Z,hp,T.cl,T.nT,(by show 0<1000;decide),?_⟩;refine⟨_,Z,_,Z,_,_,Z,Z,⟨Rv hb,hd⟩,_,Z,p,C,dx,_,Z,Z0,T.cl,T.nB,(by show 1<1000;decide),?_⟩;exact k2 hb _ (fun x hx=>by rw[Z5 hx,Z5 hx]) ⟨dx,Z0⟩
 refine⟨_,Z,_,_,Z,Z,_,Z,?_⟩;refine YC (fun h2=>?_) (fun h2=>?_);have h2:b<0:=by simpa using h2
 refine⟨_,Z,_,Z,?_⟩;exact rest _ (by unfold dv;rw[uK h2]);have h2:¬ b<0:=by simpa using h2
 exact rest _ (by unfold dv;rw[uL h2])
noncomputable abbrev Rt:Stmt:=Yq OY 8
noncomputable def shp (t b:Int):Str:=if b=1 then toString t else ((toString t:Str)++("/":Str))++(toString b:Str)
theorem QM:uh "str"=some (.type "str"):=by decide +kernel
theorem Sl {i:Int}(h:Bt 1000 i):i.natAbs.log2<1000:=by
 by_cases e:i=0;subst e;decide +kernel;exact h.log e
theorem Qx {i:Int}(h:Bt 1000 i):(uU (toString i)).length<=1001:=by
 rw[ofString_length];exact int_text_length_le (by decide) (Sl h)
theorem zu {i:Int}(h:Bt 1000 i):(uU (toString i)).length+(uU "/").length<=uR:=by
 have:=Qx h;have e:(uU "/").length=1:=by decide +kernel
 rw[e,rg];omega
theorem za {i j:Int}(h:Bt 1000 i)(g:Bt 1000 j):(uU (toString i)++uU "/").length+(uU (toString j)).length<=uR:=by
 have a:=Qx h;have b:=Qx g;have e:(uU "/").length=1:=by decide +kernel
 rw[strLen_append,e,rg];omega
def Kl (C:Addr):Sp:=fun vs H Q _=>∃ (p:Addr) (t b:Int),vs=[.ref p]/\YI C H p t b/\Bt 1000 t/\Bt 1000 b/\Q (.str (shp t b)) H
theorem zW:ZT ["self"] ["self"] (Z2 Rt):=fsc (by decide +kernel)
theorem AG (T:PTx K mg C)(Ts:mg "str"=none)(F:MFn K C "shown" "Part.shown" Rt ["self"] f fd):Z6 P w K mg base CX0 1 f fd ["self"] (Kl C):=by
 refine F.F.ok zW (fun vs H Q E h=>?_) (fun pK A outer s H vs Q E hr h=>?_);obtain⟨p,t,b,rfl,_⟩:=h;rfl;obtain⟨p,t,b,rfl,⟨dp,hp⟩,h1,h2,k⟩:=h;refine⟨_,Z4 (ZI (pq Zz (YM (pv 0) Z) Z1) (Z3 (ZR (Y0 Wp Z Ts QM (Z9 (YM (pv 0) Z) Z7)))) ZH)
  (Z3 (ZR (Zr X8 (Zr X8 (Y0 Wp Z Ts QM (Z9 (YM (pv 0) Z) Z7)) ZQ) (Y0 Wp Z Ts QM (Z9 (YM (pv 0) Z) Z7))))),?_⟩
 refine⟨_,Z,p,C,dp,_,_,Z,hp,T.cl,T.nB,QC _ _,Z,_,Z,?_⟩;refine YC (fun h=>?_) (fun h=>?_);have hb:b=1:=V.int.inj (uF h);have e:shp t b=toString t:=by unfold shp;rw[uK hb]
 rw[e]at k;exact⟨_,Z,p,C,dp,_,_,Z,hp,T.cl,T.nT,Qt _ _,_,Z,vg (Sl h1) (by decide),k⟩;have hb:¬ b=1:=fun z=>h (uO (tX V.int z));have e:shp t b=((toString t:Str)++("/":Str))++(toString b:Str):=by unfold shp;rw[uL hb]
 rw[e]at k;exact⟨_,Z,p,C,dp,_,_,Z,hp,T.cl,T.nT,Qt _ _,_,Z,vg (Sl h1) (by decide),_,_,Z,Z,zu h1,_,Z,p,C,dp,_,_,Z,hp,T.cl,T.nB,QC _ _,_,Z,vg (Sl h2) (by decide),_,_,Z,Z,za h1 h2,k⟩
noncomputable def XY (z:List Nat):Option (Int×Int):=
 if ((spq z).all fun y=>(Zw y).isSome)=true then
  match (spq z).map fun y=>(Zw y).getD 0 with
  | [a]=>some (a,1)
  | [a,b]=>if 1<b then (if shp (Yk a b) (YJ a b)=txt z then some (Yk a b,YJ a b) else none) else none
  | _=>none
 else none
theorem E1 {y:List Nat}(h:(Zw y).isSome=true):((Zw y).getD 0).natAbs<=999:=by
 unfold Zw at h ⊢;split at h
 ·next q=>
  obtain⟨n,e,hn⟩:=Lx q.1 q.2.1 fun c hc=>uF (yn.mp q.2.2 c hc);rw[uK q];rw[e]at h ⊢;dsimp only at h ⊢;split at h
  ·next g=>rw[uK g];exact hn
  cases h
 cases h
theorem MW (t:Int):Yk t 1=t/\YJ t 1=1:=by
 have e:dv t 1=1:=by unfold dv;rw[uL (by decide),Int.gcd_one];rfl
 unfold Yk YJ;rw[e];simp
def JP (C CR:Addr):Sp:=fun vs H Q E=>∃ z:List Nat,vs=[.str (txt z)]/\z.length<=100/\
 (∀ t b:Int,XY z=some (t,b)->∀ (H':Hp) (x:Addr),Z8 H H'->H x=none->YI C H' x t b->Q (.ref x) H')/\(XY z=none->∀ H':Hp,Z8 H H'->E (.ref CR) none H')
noncomputable def nvs (ws:List (List Nat)):List V:=ws.map fun y=>V.int ((Zw y).getD 0)
theorem Eu (ws:List (List Nat)):(nvs ws).length=ws.length:=by simp[nvs]
theorem asgC {g:TG}{rest:L2.TS}(h:te σ H fun v H1=>g v σ H1 (rest D)):Yw (Yj te g) rest D σ H:=h
theorem Eo {tl:TE}(hn:ws.length<=1000)(hs:∀ y∈ws,y.length<=100)(hj:∀ R:VK,(∀ (p:Addr) (H1:Hp),Z8 Hc H1->H1 p=some (.lst (sv ws))->R (.ref p) H1)->tl σ Hc R)
  (k:(∀ y∈ws,(Zw y).isSome=true)->∀ (H':Hp) (d:Addr),Z8 Hc H'->H' d=some (.lst (nvs ws))->Q (.ref d) H') (kE:¬ (∀ y∈ws,(Zw y).isSome=true)->∀ H':Hp,Z8 Hc H'->E (.ref CR) none H') :
  YK (Wx K tl) 1 [] (ZO 0) (YR (Rw CR) [] E (ZL (ZN 0) ZG)) σ Hc Q:=by
 refine hj _ fun p H1 s1 hp=>⟨p,rfl,⟨_,SqL.of hp⟩,fun d hd=>?_⟩;refine XB (Q:=fun d H'=>Q (.ref d) H') ws.length (nvs ws) (Eu ws) (fun i σ H3=>∃ o,σ=[o]/\Z8 H1 H3/\∀ y∈ws.take i,(Zw y).isSome=true) ⟨none,rfl,ZY (Z8.refl _) hd,by simp⟩ ?_ ?_;rintro i σ H3 hi ⟨o,rfl,s3,al⟩ pE;have hq:=SqL.of (K:=K) (s3 _ _ hp);have e1:(sv ws)[i]?=some (.str (txt ws[i])):=K2 (yR hi);refine⟨⟨_,_,hq,e1⟩,fun y H4 ⟨eH,hy⟩=>?_⟩;subst eH;have hy:=hy _ hq;rw[e1]at hy;cases hy;refine⟨_,Z,ws[i],Z,hs _ (xJ hi),fun m hm _ H5 s5=>?_,fun hm H5 s5=>?_⟩;have s35:=s3.trans s5;refine Xc hi hn (s5 _ _ pE) ?_ ⟨_,rfl,ZY s35 hd,fun y hy=>?_⟩;unfold nvs;rw[yw,yR hi];show some (V.int ((Zw ws[i]).getD 0))=_;rw[hm];rfl;rw[xT,yR hi]at hy;rcases yo.mp hy with g|g;exact al y g;have g:y=ws[i]:=by simpa using g
 rw[g,hm];rfl;refine kE (fun q=>?_) _ (s1.trans (s3.trans s5));have:=q _ (xJ hi);rw[hm]at this;cases this;rintro σ H3 ⟨o,rfl,s3,al⟩ pE;rw[xn]at al;exact⟨⟨_,SqL.of (s3 _ _ hp),by rw[RM];exact yO _⟩,k al H3 d (s1.trans s3) pE⟩
noncomputable abbrev n_pn:List Str:=["word","numbers","part"]
theorem OZ:ZT n_pn ["word"] (Z2 Up):=fsc (by decide +kernel)
theorem Am:(["piece"]:List Str).Nodup:=by decide +kernel
variable{fi fc fs:Addr}{di dc ds:uC}
theorem AZ {fn:Addr}{tk:Tok}(TB:Bi mg)(T:PTx K mg C)(M:Mk K C fc)(bI:Zn K dc ["self","top","bottom"] [])(bJ:Zn K dc ["self","top","bottom"] [.int 1 tk])(GI:Z6 P w K mg base (CX1 P w) 2 fc dc ["self","top","bottom"] (RJ C CN))
  (FS:MFn K C "shown" "Part.shown" Rt ["self"] fs ds) (GS:Z6 P w K mg base CX0 1 fs ds ["self"] (Kl C))
  (lN:Fn K mg "need" Wd ["fits"] fn dn) (lO:Z6 P w K mg base (CX1 P w) 1 fn dn ["fits"] (TZ CR)) (FNi:Fn K mg "number_in" VH ["word"] fi di) (GNi:Z6 P w K mg base (CX1 P w) 2 fi di ["word"] (Rw CR))
  (F:Fn K mg "part_in" Up ["word"] f fd):Z6 P w K mg base (CX1 P w) 4 f fd ["word"] (JP C CR):=by
 refine F.F.ok1 OZ (fun vs H Q E h=>?_) (fun pK A outer s H vs Q E hr h=>?_);obtain⟨z,rfl,_⟩:=h;rfl
 ·obtain⟨z,rfl,hz,k1,k2⟩:=h;have oU:ZK 1 _:=hr.mono (by decide);have hv1:ZX [.int 1] [.int 1 tk]:=.cons ⟨_,rfl⟩ .nil;refine⟨_,Z4 (Fb (E':=E) (j:=1) (N:=n_pn) (names:=(Z2 Up).names) (N':=["piece"]) (k:=1) (pull:=[]) Z (fun _ _ _ z=>z) Z OZ.nd Z Z (bsc (by decide +kernel)) Z rfl
    (XC (Yz tw qo qm QA (pv 0) (Z9 ZQ Z7))) (fun _ _ _ _ _ _=>Zy (i:=0) Am Z (ug Z))
    (fun _ _ _ _ _ _ _ ps=>pcx FNi GNi hr ps (Z9 (pv 0) Z7)))
   (Z4 (ZI (pq Zz (ZM Zj (by rfl) TB.len uD (Z9 (pv 1) Z7)) Z1) (Z3 (ZR (So M GI hr Z T.mgC bJ hv1 (Zx fun _ _ _ z=>z) (Z9 (pj ZF (pv 1) Z1) Z7)))) ZH)
   (Z4 (Zq (pcx lN lO oU (Zx fun _ _ _ z=>z) (Z9 (X0 (YW Zz (ZM Zj (by rfl) TB.len uD (Z9 (pv 1) Z7)) Z1 (YA _)) (Xx (YW V5 (pj ZF (pv 1) Z1) Z1 (YA _)))) Z7)))
   (Z4 (pz OZ 2 (So M GI hr Z T.mgC bI .nil (Zx fun _ _ _ z=>z) (Z9 (pj ZF (pv 1) Z1) (Z9 (pj ZF (pv 1) Z1) Z7))))
   (Z4 (Zq (pcx lN lO oU (Zx fun _ _ _ z=>z) (Z9 (YW Zz (Xm (pv 2) T.cl FS.m GS oU FS.b .nil Y8) (pv 0) (YA _)) Z7)))
   (Z3 (ZR (pv 2))))))),?_⟩
  obtain⟨sl,sm⟩:=Hv z;have big:1000<=uR:=by decide
  have iF:∀ {H':Hp},XY z=none->Z8 H H'->E (.ref CR) none H':=fun h s'=>k2 h _ s';refine asgC (Eo (ws:=spq z) (by omega) (fun y hy=>by have:=sm y hy;omega) (fun R hR=>?_) ?_ ?_);refine⟨_,Z,Z,_,_,Z,Z,by decide,by rw[ZD];omega,fun l hl=>?_⟩;have ou:(rM (txt z) (uU "/")).map V.str=sv (spq z):=by
   rw[FX,GY,LY]
  rw[ou];exact hR l _ (ZY (Z8.refl H) hl) Z0
  rotate_left
  intro hn H' s';refine iF ?_ s';unfold XY;rw[uL];rw[yn];exact hn;intro al H1 d s1 hd;have al2:((spq z).all fun y=>(Zw y).isSome)=true:=yn.mpr al;have hvs:nvs (spq z)=((spq z).map fun y=>(Zw y).getD 0).map V.int:=by unfold nvs;rw[xl];rfl
  rw[hvs]at hd;have eP:XY z=match (spq z).map fun y=>(Zw y).getD 0 with
   | [a]=>some (a,1)
   | [a,b]=>if 1<b then (if shp (Yk a b) (YJ a b)=txt z then some (Yk a b,YJ a b) else none) else none
   | _=>none:=by unfold XY;rw[uK al2]
  have h9:∀ x∈(spq z).map fun y=>(Zw y).getD 0,x.natAbs<=999:=fun x hx=>by
   obtain⟨y,hy,rfl⟩:=yE.mp hx;exact E1 (al y hy)
  have gq:1<=((spq z).map fun y=>(Zw y).getD 0).length:=by rw[yK];exact wI.mpr (Wf z)
  generalize ((spq z).map fun y=>(Zw y).getD 0)=xs at hd eP h9 gq;dsimp only [ZO];refine⟨_,Z,d,_,Z,.inl (SqL.of hd),Z,_,Z,?_⟩;have bt:∀ {i:Int},i.natAbs<=999->Bt 1000 i:=fun {i} hi=>xI hi (yz (show 999<2^10 by decide) (Nat.pow_le_pow_right (show 0<2 by decide) (show 10<=1000 by decide)))
  match xs,gq,hd,eP,h9 with
  | [a],_,hd,eP,h9=>
   refine ZP ?_;refine⟨_,Z,d,_,0,_,Z,Z,SqL.of hd,ZU (j:=0) Z,?_⟩;refine Cb (t:=a) (b:=1) (by decide) (by show (1:Int).natAbs<2^4000;exact Nat.one_lt_two_pow (by decide)) fun H2 x s2 nx p2=>?_;rw[(MW a).1,(MW a).2]at p2;exact k1 a 1 eP H2 x (s1.trans s2) (s1.free nx) p2
  | [a,b],_,hd,eP,h9=>
   refine ZZ ?_;have ha:=h9 a (by simp);have hb:=h9 b (by simp);refine⟨_,Z,d,_,Z,.inl (SqL.of hd),Z,_,Z,?_⟩;refine ZP ⟨_,rfl,d,_,1,_,rfl,rfl,SqL.of hd,ZU (j:=1) rfl,_,_,rfl,rfl,decide (1<b),rfl,fun h1=>?_,fun h1=>?_⟩
   case refine_2=>
    have h1:=rS h1;exact iF (by rw[eP];exact uL h1) s1
   have h1:=uF h1;refine⟨_,Z,d,_,0,_,Z,Z,SqL.of hd,ZU (j:=0) Z,_,Z,d,_,1,_,Z,Z,SqL.of hd,ZU (j:=1) Z,?_⟩;intro x dx nx ka mz;refine DF (by omega) ((bt hb).mono (by decide)) nx ka fun H2 s2 p2=>⟨rfl,?_⟩;have lt:=Ew (t:=a) (b:=b) (by omega);have lb:=Dk (t:=a) (b:=b) (by omega);dsimp only [ZO];obtain⟨dp,hp⟩:=id p2;refine⟨_,Z,x,dp,_,Z,hp,Ly _ _ (by decide +kernel) (by decide +kernel),x,_,_,Z,p2,bt (by omega),bt (by omega),_,Z,Z,decide (shp (Yk a b) (YJ a b)=txt z),?_,fun he=>?_,fun he=>?_⟩
   ·show [V.bl (decide (V.str (shp (Yk a b) (YJ a b))=V.str (txt z)))]=_;congr 2;exact sI.mpr ⟨fun q=>V.str.inj q,fun q=>by rw[q]⟩
   have he:=uF he;exact⟨_,Z,k1 _ _ (by rw[eP];exact (uK h1).trans (uK he)) H2 x (s1.trans s2) (s1.free nx) p2⟩;have he:=rS he;exact iF (by rw[eP];exact (uK h1).trans (uL he)) (s1.trans s2)
  | a::b::c::r,_,hd,eP,h9=>
   rw[uJ (show ¬ V.int (((a::b::c::r).map V.int).length:Int)=V.int 1 from fun q=>by have:=V.int.inj q;simp at this;omega)];refine ZZ ?_;refine⟨_,Z,d,_,Z,.inl (SqL.of hd),Z,_,Z,?_⟩;rw[uJ (show ¬ V.int (((a::b::c::r).map V.int).length:Int)=V.int 2 from fun q=>by have:=V.int.inj q;simp at this;omega)];exact ZZ ⟨false,rfl,nofun,fun _=>iF eP s1⟩
theorem vne {a b:Str}(h:a≠b):decide (V.str a=V.str b)=false:=uJ fun e=>h (V.str.inj e)
theorem veq (a:Str):decide (V.str a=V.str a)=true:=uO rfl
theorem AM (h:z≠[]):txt z≠uU "":=by rw[QB];exact fun e=>h (Wj e)
noncomputable abbrev n_ti:List Str:=["word","kind","number"]
theorem J4:ZT n_ti ["word","kind"] (Z2 SK):=fsc (by decide +kernel)
inductive Kd|text|side|square|part|number|steps|most
 deriving DecidableEq
noncomputable def Kd.nm:Kd->Str
 | .text=>"text" | .side=>"side" | .square=>"square" | .part=>"part" | .number=>"number" | .steps=>"steps" | .most=>"most"
noncomputable def Ox:List Nat->Option Nat
 | [c]=>if 0<=sgn c then some (sgn c).toNat else none
 | _=>none
noncomputable def okK:Kd->List Nat->Bool
 | .text,z=>decide (z≠[])
 | .side,z=>decide (txt z="across")||decide (txt z="up")
 | .square,z=>(Ox z).isSome
 | .part,z=>(XY z).isSome
 | .number,z=>(Zw z).isSome
 | .steps,z=>match Zw z with|some m=>decide (0<=m/\m<=60)|none=>false
 | .most,z=>match Zw z with|some m=>decide (1<=m/\m<=200)|none=>false
theorem Nm (z:List Nat):okK .steps z=match Zw z with|some m=>decide (0<=m/\m<=60)|none=>false:=rfl
theorem M6 (z:List Nat):okK .most z=match Zw z with|some m=>decide (1<=m/\m<=200)|none=>false:=rfl
def ThV (C:Addr):Kd->List Nat->V->Hp->Prop
 | .text,z,v,_=>v=.str (txt z)
 | .side,z,v,_=>v=.str (txt z)
 | .square,z,v,_=>∃ k:Nat,Ox z=some k/\v=.int (k:Int)
 | .part,z,v,H=>∃ (t b:Int) (x:Addr),XY z=some (t,b)/\v=.ref x/\YI C H x t b
 | _,z,v,_=>∃ m:Int,Zw z=some m/\m.natAbs<=999/\v=.int m
def OU (C CR:Addr):Sp:=fun vs H Q E=>∃ (kd:Kd) (z:List Nat),vs=[.str (txt z),.str kd.nm]/\z.length<=100/\(okK kd z=true->∀ (H':Hp) (v:V),Z8 H H'->ThV C kd z v H'->Q v H')/\(okK kd z=false->∀ H':Hp,Z8 H H'->E (.ref CR) none H')
theorem AB {fn fp:Addr}{dp:uC}{t0 t1:Tok}(TB:Bi mg)(pe:mg "SIGNS"=some (.str SG tS))(iK:mg "MOST_STEPS"=some (.int 60 t0))(kL:mg "MOST_REACHED"=some (.int 200 t1))(lN:Fn K mg "need" Wd ["fits"] fn dn)(lO:Z6 P w K mg base (CX1 P w) 1 fn dn ["fits"] (TZ CR))(FNi:Fn K mg "number_in" VH ["word"] fi di)(GNi:Z6 P w K mg base (CX1 P w) 2 fi di ["word"] (Rw CR))
  (FPn:Fn K mg "part_in" Up ["word"] fp dp) (GPn:Z6 P w K mg base (CX1 P w) 4 fp dp ["word"] (JP C CR)) (F:Fn K mg "thing_in" SK ["word","kind"] f fd):Z6 P w K mg base (CX1 P w) 5 f fd ["word","kind"] (OU C CR):=by
 refine F.F.ok1 J4 (fun vs H Q E h=>?_) (fun pK A outer s H vs Q E hr h=>?_);obtain⟨k,z,rfl,_⟩:=h;rfl
 ·obtain⟨kd,z,rfl,hz,k1,k2⟩:=h;have two:2<=uR:=by decide
  have big:1000<=uR:=by decide
  refine⟨_,(Z4 (ZI (pq Zz (pv 1) ZQ) (Z4 (Zq (pcx lN lO hr (Zx fun _ _ _ z=>z) (Z9 (YW Xb (pv 0) ZQ (YA _)) Z7)))
   (Z3 (ZR (pv 0)))) ZH)
   (Z4 (ZI (pq Zz (pv 1) ZQ) (Z4 (Zq (pcx lN lO hr (Zx fun _ _ _ z=>z) (Z9 (YW Nx (pv 0) (YV (Z9 ZQ (Z9 ZQ Z7))) Z) Z7)))
   (Z3 (ZR (pv 0)))) ZH)
   (Z4 (ZI (pq Zz (pv 1) ZQ) (Z4 (Zq (pcx lN lO hr (Zx fun _ _ _ z=>z) (Z9 (X0 (YW Zz (ZM Wq (by rfl) TB.len uD (Z9 (pv 0) Z7)) Z1 (YA _)) (Xx (YW QH (pv 0) (Zv (v:=.str SG) (by rfl) pe ⟨_,Z⟩) (by with_unfolding_all rfl)))) Z7)))
   (Z3 (ZR (Yz tw PySem.F.slot_str_index PySem.F.type_str_index Nr (Zv (v:=.str SG) (by rfl) pe ⟨_,Z⟩) (Z9 (pv 0) Z7))))) ZH)
   (Z4 (ZI (pq Zz (pv 1) ZQ) (Z3 (ZR (pcx FPn GPn hr (Zx fun _ _ _ z=>z) (Z9 (pv 0) Z7)))) ZH)
   (Z4 (pz J4 2 (pcx FNi GNi hr (Zx fun _ _ _ z=>z) (Z9 (pv 0) Z7)))
   (Z4 (ZI (pq Zz (pv 1) ZQ) (Z3 (Zq (pcx lN lO hr (Zx fun _ _ _ z=>z) (Z9 (VC XX XX Z1 (pv 2) (Zv (v:=.int 60) (by rfl) iK ⟨_,Z⟩)) Z7)))) ZH)
   (Z4 (ZI (pq Zz (pv 1) ZQ) (Z3 (Zq (pcx lN lO hr (Zx fun _ _ _ z=>z) (Z9 (VC XX XX Z1 (pv 2) (Zv (v:=.int 200) (by rfl) kL ⟨_,Z⟩)) Z7)))) ZH)
   (Z3 (ZR (pv 2)))))))))),?_⟩
  cases kd with
  | text=>
   refine⟨_,Z,Z,_,Z,?_⟩;rw[show Kd.text.nm=uU "text" from rfl,veq];refine ZP ⟨_,rfl,rfl,decide (z≠[]),?_,fun he=>⟨_,rfl,k1 he H _ (Z8.refl H) rfl⟩,fun he=>k2 he H (Z8.refl H)⟩;show [V.bl (!decide (V.str (txt z)=V.str (uU "")))]=_;by_cases hz:z=[];subst hz;rfl;rw[vne (AM hz),uO hz];rfl
  | side=>
   refine⟨_,Z,Z,_,Z,?_⟩;rw[show Kd.side.nm=uU "side" from rfl,vne (by decide +kernel)];refine ZZ ?_;refine⟨_,Z,Z,_,Z,?_⟩;rw[veq];refine ZP ⟨_,rfl,two,fun tp i8=>?_⟩;have s1:=ZY (o:=.tup [V.str (uU "across"),V.str (uU "up")]) (Z8.refl H) i8;refine⟨tp,_,Z,.inr (SqT.of Z0),Z,Z,okK .side z,?_,fun he=>⟨_,Z,k1 he _ _ s1 Z⟩,fun he=>k2 he _ s1⟩;show [V.bl (inV (V.str (txt z)) [V.str (uU "across"),V.str (uU "up")])]=_;congr 2;show ((uU "across" == txt z)||((uU "up" == txt z)||false))=(decide (txt z=uU "across")||decide (txt z=uU "up"));rw[Bool.or_false];have eq:∀ a b:Str,(a==b)=decide (b=a):=fun a b=>by
    by_cases h:b=a;subst h;rw[uO rfl];simp;rw[uJ h];simpa using fun q=>h q.symm
   rw[eq,eq]
  | square=>
   refine⟨_,Z,Z,_,Z,?_⟩;rw[show Kd.square.nm=uU "square" from rfl,vne (by decide +kernel)];refine ZZ ?_;refine⟨_,Z,Z,_,Z,?_⟩;rw[vne (by decide +kernel)];refine ZZ ?_;refine⟨_,Z,Z,_,Z,?_⟩;rw[veq];refine ZP ⟨_,rfl,_,rfl,by rw[ZD];omega,rfl,_,rfl,?_⟩
   match z,hz,k1,k2 with
   | [],hz,k1,k2=>exact ZZ ⟨false,rfl,nofun,fun _=>k2 rfl H (Z8.refl H)⟩
   | a::b::r,hz,k1,k2=>
    rw[uJ (show ¬ V.int ((txt (a::b::r)).length:Int)=V.int 1 from fun q=>by have:=V.int.inj q;rw[ZD]at this;simp at this;omega)];exact ZZ ⟨false,rfl,nofun,fun _=>k2 rfl H (Z8.refl H)⟩
   | [c],hz,k1,k2=>
    refine ZP ⟨_,rfl,_,_,rfl,rfl,okK .square [c],?_,fun he=>?_,fun he=>k2 he H (Z8.refl H)⟩
    ·show [V.bl (!(ui SG ⟨#[c]⟩ 0 SG.length 1).isEmpty)]=_;rw[StrLaws.found_one,U4,Xj];congr 2;show decide (c∈(yI 36).map sg)=(if 0<=sgn c then some (sgn c).toNat else none).isSome;by_cases hc:c∈(yI 36).map sg;have:0<=sgn c:=(by unfold sgn;rw[uK hc];omega);rw[uO hc,uK this];rfl;have:¬ 0<=sgn c:=(by unfold sgn;rw[uL hc];omega);rw[uJ hc,uL this];rfl
    have h0:0<=sgn c:=by
     refine Decidable.by_contra fun hn=>?_;have:(if 0<=sgn c then some (sgn c).toNat else none).isSome=true:=he;rw[uL hn]at this;cases this
    obtain⟨k,hk,ec,es⟩:=Kt h0;refine⟨Z,_,Z,SG,txt [c],k,[],Z,Z,?_,?_⟩;rw[Ue,U4,ec];exact M9 _ (yL.mpr hk);refine k1 he H _ (Z8.refl H) ⟨k,?_,rfl⟩;show (if 0<=sgn c then some (sgn c).toNat else none)=_;rw[uK h0,es];rfl
  | part=>
   refine⟨_,Z,Z,_,Z,?_⟩;rw[show Kd.part.nm=uU "part" from rfl,vne (by decide +kernel)];refine ZZ ?_;refine⟨_,Z,Z,_,Z,?_⟩;rw[vne (by decide +kernel)];refine ZZ ?_;refine⟨_,Z,Z,_,Z,?_⟩;rw[vne (by decide +kernel)];refine ZZ ?_;refine⟨_,Z,Z,_,Z,?_⟩;rw[veq];refine ZP ⟨_,rfl,z,rfl,hz,fun t b e H' x s' nx p=>k1 (by show (XY z).isSome=true;rw[e];rfl) H' _ s' ⟨t,b,x,e,rfl,p⟩,fun e H' s'=>k2 (by show (XY z).isSome=false;rw[e];rfl) H' s'⟩
  | number=>
   refine⟨_,Z,Z,_,Z,?_⟩;rw[show Kd.number.nm=uU "number" from rfl,vne (by decide +kernel)];refine ZZ ?_;refine⟨_,Z,Z,_,Z,?_⟩;rw[vne (by decide +kernel)];refine ZZ ?_;refine⟨_,Z,Z,_,Z,?_⟩;rw[vne (by decide +kernel)];refine ZZ ?_;refine⟨_,Z,Z,_,Z,?_⟩;rw[vne (by decide +kernel)];refine ZZ ?_;refine⟨_,Z,z,Z,hz,fun m hm h9 H1 s1=>?_,fun e H1 s1=>k2 (by show (Zw z).isSome=false;rw[e];try rfl) H1 s1⟩;dsimp only [ZO];refine⟨_,Z,Z,_,Z,?_⟩;rw[vne (by decide +kernel)];refine ZZ ?_;refine⟨_,Z,Z,_,Z,?_⟩;rw[vne (by decide +kernel)];refine ZZ ?_;exact⟨_,Z,k1 (by show (Zw z).isSome=true;rw[hm];rfl) H1 _ s1 ⟨m,hm,h9,Z⟩⟩
  | steps=>
   refine⟨_,Z,Z,_,Z,?_⟩;rw[show Kd.steps.nm=uU "steps" from rfl,vne (by decide +kernel)];refine ZZ ?_;refine⟨_,Z,Z,_,Z,?_⟩;rw[vne (by decide +kernel)];refine ZZ ?_;refine⟨_,Z,Z,_,Z,?_⟩;rw[vne (by decide +kernel)];refine ZZ ?_;refine⟨_,Z,Z,_,Z,?_⟩;rw[vne (by decide +kernel)];refine ZZ ?_;refine⟨_,Z,z,Z,hz,fun m hm h9 H1 s1=>?_,fun e H1 s1=>k2 (by rw[Nm,e]) H1 s1⟩;dsimp only [ZO];have eK:okK .steps z=decide (0<=m/\m<=60):=(by rw[Nm,hm]);refine⟨_,Z,Z,_,Z,?_⟩;rw[veq];refine ZP ⟨_,rfl,_,_,rfl,rfl,_,rfl,?_⟩;by_cases h1:(0:Int)<=m
   case neg=>
    rw[uJ h1];exact ZZ ⟨false,rfl,nofun,fun _=>k2 (by rw[eK];exact uJ fun q=>h1 q.1) H1 s1⟩
   rw[uO h1];refine ZP ⟨_,_,rfl,rfl,decide (m<=60),rfl,fun he=>?_,fun he=>k2 (by rw[eK];exact uJ fun q=>rS he q.2) H1 s1⟩;have he:=uF he;refine⟨_,Z,Z,_,Z,?_⟩;rw[vne (by decide +kernel)];refine ZZ ?_;exact⟨_,Z,k1 (by rw[eK];exact uO ⟨h1,he⟩) H1 _ s1 ⟨m,hm,h9,Z⟩⟩
  | most=>
   refine⟨_,Z,Z,_,Z,?_⟩;rw[show Kd.most.nm=uU "most" from rfl,vne (by decide +kernel)];refine ZZ ?_;refine⟨_,Z,Z,_,Z,?_⟩;rw[vne (by decide +kernel)];refine ZZ ?_;refine⟨_,Z,Z,_,Z,?_⟩;rw[vne (by decide +kernel)];refine ZZ ?_;refine⟨_,Z,Z,_,Z,?_⟩;rw[vne (by decide +kernel)];refine ZZ ?_;refine⟨_,Z,z,Z,hz,fun m hm h9 H1 s1=>?_,fun e H1 s1=>k2 (by rw[M6,e]) H1 s1⟩;dsimp only [ZO];refine⟨_,Z,Z,_,Z,?_⟩;rw[vne (by decide +kernel)];refine ZZ ?_;have eK:okK .most z=decide (1<=m/\m<=200):=(by rw[M6,hm]);refine⟨_,Z,Z,_,Z,?_⟩;rw[veq];refine ZP ⟨_,rfl,_,_,rfl,rfl,_,rfl,?_⟩;by_cases h1:(1:Int)<=m
   case neg=>
    rw[uJ h1];exact ZZ ⟨false,rfl,nofun,fun _=>k2 (by rw[eK];exact uJ fun q=>h1 q.1) H1 s1⟩
   rw[uO h1];refine ZP ⟨_,_,rfl,rfl,decide (m<=200),rfl,fun he=>?_,fun he=>k2 (by rw[eK];exact uJ fun q=>rS he q.2) H1 s1⟩;have he:=uF he;exact⟨_,Z,k1 (by rw[eK];exact uO ⟨h1,he⟩) H1 _ s1 ⟨m,hm,h9,Z⟩⟩
noncomputable abbrev n_ts:List Str:=["row","words","kinds"]
theorem O2:ZT n_ts ["row"] (Z2 UP):=fsc (by decide +kernel)
theorem JF:(["word","kind"]:List Str).Nodup:=by decide +kernel
noncomputable def Pd:List (Str×List Kd):=[("sheet",[.text,.text]),("shear",[.number]),("turn",[.number]),("mirror",[.side]),("undo",[]),("form",[]),("turns",[]),("counts",[]),("bands",[]),("along",[.number,.number]),("draw",[]),("walk",[.square,.part,.part,.number,.number,.steps]),("same",[.text,.text]),("reach",[.most]),("over",[.text,.text])]
noncomputable def X1 (w0:List Nat):Option (List Kd):=Pd.lookup (txt w0)
structure KvT (kv:List (Key×uT))(K:yS):Prop where
 no:∀ w0,X1 w0=none->tK kv (uN (txt w0):Key)=none
 ok:∀ w0 ks,X1 w0=some ks->∃ a,tK kv (uN (txt w0):Key)=some (.ref a)/\TTs K a (ks.map Kd.nm)
noncomputable def Yc (z:List Nat):Bool:=match spf z with
 | w0::ws=>match X1 w0 with
  | some ks=>decide (ws.length=ks.length)&&(ks.zip ws).all fun p=>okK p.1 p.2
  | none=>false
 | []=>false
def Xq (C:Addr)(ks:List Kd)(ws:List (List Nat))(vs:List V)(H:Hp):Prop:=vs.length=ws.length/\∀ (i:Nat) (k:Kd) (z:List Nat) (v:V),ks[i]?=some k->ws[i]?=some z->vs[i]?=some v->ThV C k z v H
theorem ThV.same {C:Addr}{k:Kd}{z:List Nat}{v:V}{H H':Hp}(h:ThV C k z v H)(s:Z8 H H'):ThV C k z v H':=by
 cases k
 case part=>obtain⟨t,b,x,e,ev,p⟩:=h;exact⟨t,b,x,e,ev,p.same s⟩
 all_goals exact h
theorem ThV.upd {C:Addr}{k:Kd}{z:List Nat}{v:V}{H:Hp}{d:Addr}{xs:List V}{o:HO}(h:ThV C k z v H)(hd:H d=some (.lst xs)):ThV C k z v (upd H d o):=by
 cases k
 case part=>
  obtain⟨t,b,x,e,ev,dx,p⟩:=h;refine⟨t,b,x,e,ev,dx,?_⟩;rw[Z5 (fun q=>by rw[q,hd]at p;cases p)];exact p
 all_goals exact h
variable{w0:List Nat}{ks:List Kd}
theorem Hj (h:X1 w0=some ks):ks.length<=6:=by
 have key:∀ (l:List (Str×List Kd)) (x:Str) (ks:List Kd),(∀ p∈l,p.2.length<=6)->l.lookup x=some ks->ks.length<=6:=fun l x ks hl e=>by
  induction l with
  | nil=>cases e
  | cons p l ih=>
   rw[xU]at e;split at e;cases e;exact hl p (by simp);exact ih (fun q hq=>hl q (yx _ hq)) e
 exact key _ _ _ (by decide +kernel) h
def JL (C CR:Addr):Sp:=fun vs H Q E=>∃ z:List Nat,vs=[.str (txt z)]/\z.length<=100/\
 (Yc z=true->∀ (w0:List Nat) (ws:List (List Nat)) (ks:List Kd),spf z=w0::ws->X1 w0=some ks->ws.length=ks.length->(∀ (i:Nat) (k:Kd) (y:List Nat),ks[i]?=some k->ws[i]?=some y->okK k y=true)->∀ (H':Hp) (l:Addr) (vs:List V),Z8 H H'->H l=none->Xq C ks ws vs H'->H' l=some (.lst (.str (txt w0)::vs))->Q (.ref l) H')/\(Yc z=false->∀ H':Hp,Z8 H H'->E (.ref CR) none H')
set_option maxHeartbeats 1000000 in
theorem BO {fn:Addr}{kv:List (Key×uT)}{dK:Addr}(T:Bi mg)(jF:mg "zip"=none)(oE:mg "KINDS"=some (.ref dK))(hD:TDi P w K dK kv)(hK:KvT kv K)(lN:Fn K mg "need" Wd ["fits"] fn dn)(lO:Z6 P w K mg base (CX1 P w) 1 fn dn ["fits"] (TZ CR))(FTi:Fn K mg "thing_in" SK ["word","kind"] fi di)(GTi:Z6 P w K mg base (CX1 P w) 5 fi di ["word","kind"] (OU C CR))(F:Fn K mg "things_in" UP ["row"] f fd):Z6 P w K mg base (CX1 P w) 6 f fd ["row"] (JL C CR):=by
 refine F.F.ok1 O2 (fun vs H Q E h=>?_) (fun pK A outer s H vs Q E hr h=>?_);obtain⟨z,rfl,_⟩:=h;rfl
 ·obtain⟨z,rfl,hz,k1,k2⟩:=h;have one:1<=uR:=by decide
  have big:1000<=uR:=by decide
  refine⟨_,(Z4 (pz O2 1 (Yz tw qo qm QA (pv 0) (Z9 ZQ Z7)))
   (Z4 (Zq (pcx lN lO hr (Zx fun _ _ _ z=>z) (Z9 (YW KF (pj ZF (pv 1) Z1) (Zv (v:=.ref dK) (by rfl) oE Z) Z) Z7)))
   (Z4 (pz O2 2 (Fg (Zv (v:=.ref dK) (by rfl) oE Z) (pj ZF (pv 1) Z1) (fun _ _=>rfl)))
   (Z4 (Zq (pcx lN lO hr (Zx fun _ _ _ z=>z) (Z9 (YW Zz (ZM Zj Z T.len uD (Z9 (pv 1) Z7)) (Zr Bx (ZM Zj Z T.len uD (Z9 (pv 2) Z7)) Z1) (YA _)) Z7)))
   (Z3 (ZR (Zr Zg (YU (Z9 (pj ZF (pv 1) Z1) Z7)) (Fy (E':=E) (N:=n_ts) (names:=(Z2 UP).names) (N':=["word","kind"]) (k:=2) (pull:=[]) (te:=YR (OU C CR) [] E (ZL (ZN 0) (ZL (ZN 1) ZG))) Z (fun _ _ _ z=>z) Z (bsc (by decide +kernel)) Z Z (Ei Z jF (Z9 (SW Lq (pv 1) (Us Z1) Qc) (Z9 (pv 2) Z7))) (fun _ _ _ _ _ _=>R7 (n:=2) Z (X7 (Zy (i:=0) JF Z (ug Z)) (X7 (Zy (i:=1) JF Z (ug Z)) Vu))) (fun _ _ _ _ _ _ _ ps=>(pcx FTi GTi hr ps (Z9 (pv 0) (Z9 (pv 1) Z7)))))))))))),?_⟩
  refine⟨_,Z,Z,_,_,Z,Z,by decide,by rw[ZD];lia,fun l hl=>?_⟩;have ou:(rM (txt z) (uU " ")).map V.str=sv (spf z):=by
   rw[Wk,Nz,LY]
  rw[ou];obtain⟨sm1,sm⟩:=QN z;have pC:=Wb z;have eR:Yc z=match spf z with
   | w0::ws=>match X1 w0 with
    | some ks=>decide (ws.length=ks.length)&&(ks.zip ws).all fun p=>okK p.1 p.2
    | none=>false
   | []=>false:=rfl
  generalize spf z=zs at sm1 sm pC eR k1 ⊢
  match zs,pC,sm1,sm,eR,k1 with
  | w0::ws,_,sm1,sm,eR,k1=>
   dsimp only at eR;have s1:Z8 H (upd H l (.lst (sv (w0::ws)))):=ZY (Z8.refl H) hl;have fE:(upd H l (.lst (sv (w0::ws)))) l=some (.lst (sv (w0::ws))):=Z0;generalize upd H l (.lst (sv (w0::ws)))=H1 at s1 fE;dsimp only [ZO];refine⟨_,Z,l,_,0,_,Z,Z,SqL.of fE,ZU (j:=0) Z,dK,kv,uN (txt w0),Z,Z,hD,(tK kv (uN (txt w0):Key)).isSome,Z,fun hv=>?_,fun hv=>?_⟩
   case refine_2=>
    refine k2 ?_ H1 s1;rw[eR];cases hk:X1 w0 with
    | none=>rfl
    | some ks=>
     obtain⟨a,e,_⟩:=hK.ok w0 ks hk;rw[e]at hv;cases hv
   obtain⟨ks,hk⟩:∃ ks,X1 w0=some ks:=by
    cases hk:X1 w0 with
    | none=>rw[hK.no w0 hk]at hv;cases hv
    | some ks=>exact⟨ks,Z⟩
   obtain⟨a,hv,hT⟩:=hK.ok w0 ks hk;rw[hk]at eR;dsimp only at eR;refine⟨_,Z,l,_,0,_,Z,Z,SqL.of fE,ZU (j:=0) Z,dK,kv,uN (txt w0),.ref a,.ref a,Z,Z,hD,hv,Z,?_⟩;dsimp only [ZO];refine⟨_,Z,l,_,Z,.inl (SqL.of fE),_,Z,a,_,Z,.inr (hT.sq H1),_,_,Z,Z,Z,decide (ws.length=ks.length),?_,fun nu=>?_,fun nu=>?_⟩
   ·show [V.bl (decide (V.int ((sv (w0::ws)).length:Int)=V.int ((((ks.map Kd.nm).map V.str).length:Int)+1)))]=_;rw[RM,yK,yK];congr 2;refine sI.mpr ⟨fun q=>?_,fun q=>?_⟩;have:=V.int.inj q;simp at this;lia;rw[<-q];simp
   case refine_3=>exact k2 (by rw[eR,nu];rfl) H1 s1
   have nu:=uF nu;have hks:=Hj hk;rw[uO nu,Bool.true_and]at eR;refine⟨_,Z,l,_,0,_,Z,Z,SqL.of fE,ZU (j:=0) Z,one,fun p hp=>?_⟩;have s2:=ZY (o:=.lst [V.str (txt w0)]) (Z8.refl H1) hp;have jt:(upd H1 p (.lst [V.str (txt w0)])) p=some (.lst [V.str (txt w0)]):=Z0;generalize upd H1 p (.lst [V.str (txt w0)])=H2 at s2 jt;dsimp only [YK,JI,ZL,ZG,tSl,Pf,Qi];refine⟨_,Z,_,Z,l,_,Z,SqL.of (s2 _ _ fE),fun l2 hl2'=>?_⟩;have ec:Wr (sv (w0::ws)) (some 1) none=sv ws:=by
    unfold Wr;have h1:HT.sIx (sv (w0::ws)).length 0 (some 1)=min 1 (sv (w0::ws)).length:=HT.sIx_nat _ 0 1;have h2:HT.sIx (sv (w0::ws)).length (sv (w0::ws)).length none=(sv (w0::ws)).length:=rfl;rw[h1,h2,RM];simp only[sv,ye,yi];rw[show min 1 (ws.length+1)=1 by lia];simp only[List.drop_succ_cons,List.drop_zero,Nat.add_sub_cancel];exact vU (by rw[yK];exact yO _)
   rw[ec];have s3:=ZY (o:=.lst (sv ws)) (Z8.refl H2) hl2';have ae:(upd H2 l2 (.lst (sv ws))) l2=some (.lst (sv ws)):=Z0;generalize upd H2 l2 (.lst (sv ws))=H3 at s3 ae;refine⟨_,Z,l2,a,Z,⟨_,SqL.of ae⟩,⟨_,hT.sq H3⟩,fun d hd=>?_⟩;have s03:=s1.trans (s2.trans s3);refine Ut (Q:=fun d H'=>Rb (.ref p) (.ref d) H' Q) ws.length (fun i xs σ H4=>(∃ o1 o2,σ=[o1,o2])/\Z8 H3 H4/\xs.length=i/\(∀ (j:Nat) (k:Kd) (y:List Nat),j<i->ks[j]?=some k->ws[j]?=some y->okK k y=true)/\∀ (j:Nat) (k:Kd) (y:List Nat) (v:V),ks[j]?=some k->ws[j]?=some y->xs[j]?=some v->ThV C k y v H4)
    ⟨⟨_,_,rfl⟩,ZY (Z8.refl _) hd,rfl,fun j _ _ h=>absurd h (xM _),fun j _ _ _ _ _ h=>by simp at h⟩ ?_ ?_
   rintro i xs σ H4 hi ⟨⟨o1,o2,rfl⟩,s4,la,hok,hG⟩ eZ;have hik:i<ks.length:=(by lia);have hw4:=SqL.of (K:=K) (s4 _ _ ae);have g1:ks[i]?=some ks[i]:=yR hik;have g2:ws[i]?=some ws[i]:=yR hi;have e1:(sv ws)[i]?=some (.str (txt ws[i])):=K2 g2;have e2:((ks.map Kd.nm).map V.str)[i]?=some (.str ks[i].nm):=(by rw[yw,yw,g1];rfl);refine⟨⟨_,_,_,_,hw4,hT.sq H4,e1,e2⟩,fun x H5 ⟨T',a',b',hT',ex,q1,q2,eH⟩=>?_⟩;have q1:=q1 _ hw4;have q2:=q2 _ (hT.sq H4);rw[e1]at q1;rw[e2]at q2;cases q1;cases q2;subst ex eH;have s5:=ZY (o:=Ya T' [V.str (txt ws[i]),V.str ks[i].nm]) (Z8.refl H4) hT';refine⟨T',_,Z,Z0,Z,_,_,Z,_,_,Z,Z,?_⟩;refine⟨_,Z,_,Z,ks[i],ws[i],Z,by have:=sm ws[i] (yx _ (xJ hi));lia,fun he H6 v s6 hv=>?_,fun he H6 s6=>k2 ?_ H6 (s03.trans (s4.trans (s5.trans s6)))⟩;have s56:=s5.trans s6;have hd6:=s56 _ _ eZ;refine U5 hi hd6 (by lia) ⟨⟨_,_,rfl⟩,ZY (s4.trans s56) hd,by rw[yJ,la];rfl,fun j k y hj h1 h2=>?_,fun j k y u h1 h2 h3=>?_⟩;rcases yb j i with c|c;exact hok j k y c h1 h2;have e:j=i:=(by lia);subst e;rw[g1]at h1;rw[g2]at h2;cases h1;cases h2;exact he;rcases yb j i with c|c;rw[yq (by lia)]at h3;exact ((hG j k y u h1 h2 h3).same s56).upd hd6;have e:j=i:=by
    have:=(yP.mp h3).1;rw[yJ,la]at this;simp at this;lia
   subst e;rw[xX (by lia),la,Nat.sub_self]at h3;rw[g1]at h1;rw[g2]at h2;cases h1;cases h2;cases h3;exact hv.upd hd6;rw[eR];refine wy.mpr fun q=>?_;have hm:(ks[i],ws[i])∈ks.zip ws:=yA (u6.mpr ⟨g1,g2⟩);have:=yn.mp q _ hm;rw[he]at this;cases this;rintro xs σ H4 ⟨⟨o1,o2,rfl⟩,s4,la,hok,hG⟩ eZ;refine⟨⟨_,SqL.of (s4 _ _ ae),RM ws⟩,?_⟩;have cB:∀ (j:Nat) (k:Kd) (y:List Nat),ks[j]?=some k->ws[j]?=some y->okK k y=true:=fun j k y h1 h2=>hok j k y (yP.mp h2).1 h1 h2;have hR:Yc z=true:=by
    rw[eR,yn];intro q hq;obtain⟨j,hj⟩:=List.getElem?_of_mem hq;obtain⟨h1,h2⟩:=u6.mp hj;exact cB j _ _ h1 h2
   refine⟨p,d,_,_,Z,Z,s4 _ _ (s3 _ _ jt),eZ,by show 1+xs.length<=_;lia,fun q hq=>?_⟩;have sA:=s03.trans s4;have sq:=ZY (o:=.lst ([V.str (txt w0)]++xs)) (Z8.refl H4) hq;exact k1 hR w0 ws ks rfl hk nu cB _ q xs (sA.trans sq) (sA.free hq) ⟨la,fun j k y v h1 h2 h3=>(hG j k y v h1 h2 h3).same sq⟩ Z0
noncomputable def sts (p0 p1 p2 p3:Addr):List (Key×V):=[(uN "r",.ref p0),(uN "l",.ref p1),(uN "u",.ref p2),(uN "d",.ref p3)]
def LZ:Sp:=fun vs H Q _=>∃ (a:Addr) (n:Nat) (r u:List Nat),vs=[.ref a]/\ZV H a r u/\Row n r/\Row n u/\n<=36/\∀ (H':Hp) (d p0 p1 p2 p3:Addr),Z8 H H'->H d=none->H' d=some (.dK (sts p0 p1 p2 p3))->
 H' p0=some (.tup (nv (rw4 r u 0)))->H' p1=some (.tup (nv (rw4 r u 1)))->H' p2=some (.tup (nv (rw4 r u 2)))->H' p3=some (.tup (nv (rw4 r u 3)))->Q (.ref d) H'
theorem DG:ZT ["rows"] ["rows"] (Z2 RV):=fsc (by decide +kernel)
theorem Co (p0 p1 p2 p3:Addr):WG [] (sts p0 p1 p2 p3)=sts p0 p1 p2 p3:=by
 have n1:¬ ((uN ("r":Str):Key)=uN ("l":Str)):=by decide +kernel
 have n2:¬ ((uN ("r":Str):Key)=uN ("u":Str)):=by decide +kernel
 have n3:¬ ((uN ("r":Str):Key)=uN ("d":Str)):=by decide +kernel
 have n4:¬ ((uN ("l":Str):Key)=uN ("u":Str)):=by decide +kernel
 have n5:¬ ((uN ("l":Str):Key)=uN ("d":Str)):=by decide +kernel
 have n6:¬ ((uN ("u":Str):Key)=uN ("d":Str)):=by decide +kernel
 show Zh (Zh (Zh (Zh [] (uN ("r":Str):Key) (V.ref p0)) (uN ("l":Str):Key) (V.ref p1)) (uN ("u":Str):Key) (V.ref p2)) (uN ("d":Str):Key) (V.ref p3)=_;rw[XE (kvs:=[]) _ rfl];rw[XE (k:=(uN ("l":Str):Key)) _ (by show Zu [((uN ("r":Str):Key),V.ref p0)] _=none;rw[YZ n1];rfl)];rw[XE (k:=(uN ("u":Str):Key)) _ (by show Zu [((uN ("r":Str):Key),V.ref p0),(uN ("l":Str),V.ref p1)] _=none;rw[YZ n2,YZ n4];rfl)];rw[XE (k:=(uN ("d":Str):Key)) _ (by show Zu [((uN ("r":Str):Key),V.ref p0),(uN ("l":Str),V.ref p1),(uN ("u":Str),V.ref p2)] _=none;rw[YZ n3,YZ n5,YZ n6];rfl)];rfl
variable{fb:Addr}{eJ:uC}
theorem FD (F:Fn K mg "step_rows" RV ["rows"] f fd)(FB:Fn K mg "back_row" XF ["row"] fb eJ)(GB:Z6 P w K mg base CX0 1 fb eJ ["row"] S6) :
  Z6 P w K mg base CX0 2 f fd ["rows"] LZ:=by
 refine F.F.ok DG (fun vs H Q E h=>?_) (fun pK A outer s H vs Q E hr h=>?_);obtain⟨a,n,r,u,rfl,_⟩:=h;rfl;obtain⟨a,n,r,u,rfl,⟨p,q,h1,h2,h3⟩,rr,ru,hn,k⟩:=h;refine⟨_,Z3 (ZR (Qf (Vz ZQ (pj Zp (pv 0) Z1) (Vz ZQ (pc0 FB GB hr (Z9 (pj Zp (pv 0) Z1) Z7))
  (Vz ZQ (pj Zp (pv 0) Z1) (Vz ZQ (pc0 FB GB hr (Z9 (pj Zp (pv 0) Z1) Z7)) P8)))) Z Z (by simp) (by decide))),?_⟩
 intro d hd;have s0:Z8 H (upd H d (.dK [])):=ZY (Z8.refl H) hd;refine⟨_,Z,a,_,0,_,Z,Z,SqT.of (s0 _ _ h1),ZU (j:=0) Z,?_⟩;refine⟨_,Z,a,_,0,_,Z,Z,SqT.of (s0 _ _ h1),ZU (j:=0) Z,p,n,r,Z,s0 _ _ h2,rr,hn,fun H1 l1 s1 mh=>?_⟩;have jb:=s0.trans s1;refine⟨_,Z,a,_,1,_,Z,Z,SqT.of (jb _ _ h1),ZU (j:=1) Z,?_⟩;refine⟨_,Z,a,_,1,_,Z,Z,SqT.of (jb _ _ h1),ZU (j:=1) Z,q,n,u,Z,jb _ _ h3,ru,hn,fun H2 l2 s2 nu=>?_⟩;have s02:=jb.trans s2;have hd2:H2 d=some (.dK []):=s2 _ _ (s1 _ _ Z0);refine⟨hd2,sts p l1 q l2,Z,by show 4<=15;decide,?_⟩;rw[Co];have ne:∀ b ys,H2 b=some (.tup ys)->(upd H2 d (.dK (sts p l1 q l2))) b=some (.tup ys):=fun b ys e=>by
  rw[Z5 (TQ e hd2 (by intro z;cases z))];exact e
 exact k _ d p l1 q l2 (ZY s02 hd) hd Z0 (ne _ _ (s02 _ _ h2)) (ne _ _ (s2 _ _ mh)) (ne _ _ (s02 _ _ h3)) (ne _ _ nu)
noncomputable def Rk (c:Nat):Nat:=match c with
 | 0=>114
 | 1=>108
 | 2=>117
 | _=>100
noncomputable def pth (p:List Nat):Str:=⟨(p.map Rk).toArray⟩
theorem Dr:("":Str)=pth []:=by decide +kernel
theorem ltr0:("r":Str)=pth [0]:=by decide +kernel
theorem ltr1:("l":Str)=pth [1]:=by decide +kernel
theorem ltr2:("u":Str)=pth [2]:=by decide +kernel
theorem ltr3:("d":Str)=pth [3]:=by decide +kernel
theorem EB (p:List Nat)(c:Nat):pth p++pth [c]=pth (p++[c]):=by
 show Str.mk ((p.map Rk).toArray++([c].map Rk).toArray)=Str.mk _;simp
theorem L6 (p:List Nat):(pth p).length=p.length:=by
 show (p.map Rk).toArray.size=_;simp
theorem C6 {p0 p1 p2 p3:Addr}{k:Key}{v:V}(h:(sts p0 p1 p2 p3)[i]?=some (k,v)):i<4/\k=uN (pth [i])/\∃ p,v=.ref p/\[p0,p1,p2,p3][i]?=some p:=by
 match i,h with
 | 0,h=>cases h;exact⟨by decide,by rw[<-ltr0],_,Z,Z⟩
 | 1,h=>cases h;exact⟨by decide,by rw[<-ltr1],_,Z,Z⟩
 | 2,h=>cases h;exact⟨by decide,by rw[<-ltr2],_,Z,Z⟩
 | 3,h=>cases h;exact⟨by decide,by rw[<-ltr3],_,Z,Z⟩
 | i+4,h=>cases h
noncomputable def pd (F:List Nat)(P:List (List Nat)):List (Key×V):=(F.zip P).map fun xp=>((ur (xp.1:Int):Key),V.str (pth xp.2))
theorem Bq {F:List Nat}{P:List (List Nat)}(h:P.length=F.length):(pd F P).length=F.length:=by simp[pd,h]
theorem C4 {F:List Nat}{P:List (List Nat)}(h:P.length=F.length)(x:Nat)(p:List Nat):pd (F++[x]) (P++[p])=pd F P++[(ur (x:Int),V.str (pth p))]:=by
 unfold pd;rw[List.zip_append h.symm,ym];rfl
theorem Qd:∀ {F:List Nat} {P:List (List Nat)},P.length=F.length->(pd F P).map (·.1)=F.map fun (n:Nat)=>(ur (n:Int):Key)
 | [],_,_=>rfl
 | x::F,[],h=>by simp at h
 | x::F,p::P,h=>by
  show (ur (x:Int):Key)::(pd F P).map (·.1)=_;rw[Qd (by simpa using h)];rfl
variable{y:Nat}
theorem Ls {F:List Nat}{P:List (List Nat)}(h:P.length=F.length)(hy:y∉F):Zu (pd F P) (ur (y:Int):Key)=none:=by
 cases e:Zu (pd F P) (ur (y:Int):Key) with
 | none=>rfl
 | some v=>
  have:=Mi e;rw[Qd h]at this;obtain⟨x,hx,ex⟩:=yE.mp this;have:x=y:=by have:=ur.inj ex;lia
  exact absurd (this ▸ hx) hy
theorem Qg:∀ {F:List Nat} {P:List (List Nat)},F.Nodup->∀ {i x:Nat} {p:List Nat},F[i]?=some x->P[i]?=some p->Zu (pd F P) (ur (x:Int):Key)=some (.str (pth p))
 | [],_,_,i,x,p,hx,_=>by simp at hx
 | y::F,[],_,i,x,p,_,hp=>by simp at hp
 | y::F,q::P,nd,0,x,p,hx,hp=>by
  simp at hx hp;subst hx hp;exact Yt rfl
 | y::F,q::P,nd,i+1,x,p,hx,hp=>by
  have gJ:=wU.mp nd;have mx:F[i]?=some x:=by simpa using hx
  have pC:y≠x:=fun e=>gJ.1 (e ▸ yA mx);show Zu ((((ur (y:Int):Key),V.str (pth q)))::pd F P) _=_;rw[YZ (fun e=>pC (by have:=ur.inj e;lia))];exact Qg gJ.2 mx (by simpa using hp)
def LO:Sp:=fun vs H Q _=>∃ (a:Addr) (n:Nat) (r u:List Nat) (f:Nat),vs=[.ref a,.int (f:Int)]/\ZV H a r u/\Row n r/\Row n u/\n<=36/\f<n/\
 ∀ (H':Hp) (d:Addr) (F:List Nat) (P:List (List Nat)),Z8 H H'->H d=none->H' d=some (.dK (pd F P))->Vp n r u f F P->Q (.ref d) H'
def V7 (H:Hp)(r u:List Nat)(p0 p1 p2 p3:Addr):Prop:=∀ i p,[p0,p1,p2,p3][i]?=some p->H p=some (.tup (nv (rw4 r u i)))
def PIn (n:Nat)(r u:List Nat)(f:Nat)(a ds dp lf:Addr)(kk x:Nat)(p0 p1 p2 p3:Addr)(H:Hp)(o:Obj)(i:Nat)(σ:St)(H3:Hp):Prop:=
 ∃ (F1:List Nat) (P1:List (List Nat)) (o7 o8:Option V),σ=[some (.ref a),some (.int (f:Int)),some (.ref ds),some (.ref dp),some (.ref lf),some (.int (kk:Int)),some (.int (x:Int)),o7,o8]/\Z8 H H3/\H3 ds=some (.frz o (.dK (sts p0 p1 p2 p3)))/\V7 H3 r u p0 p1 p2 p3/\
  H3 dp=some (.dK (pd F1 P1))/\H3 lf=some (.lst (nv F1))/\Pth n r u f F1 P1 kk i/\F1[kk]?=some x
theorem Xl:ZT ["rows","first","steps","paths","found","done","here","letter","row"] ["rows","first"] (Z2 RL):=fsc (by decide +kernel)
variable{iB:uC}
theorem F2 (T:Bi mg)(F:Fn K mg "paths_from" RL ["rows","first"] f fd)(FS:Fn K mg "step_rows" RV ["rows"] fs iB)(GS:Z6 P w K mg base CX0 2 fs iB ["rows"] LZ) :
  Z6 P w K mg base CX0 3 f fd ["rows","first"] LO:=by
 refine F.F.ok Xl (fun vs H Q E h=>?_) (fun pK A outer s H vs Q E hr h=>?_);obtain⟨a,n,r,u,f,rfl,_⟩:=h;rfl
 ·obtain⟨a,n,r,u,f,rfl,o9,rr,ru,hn,hf,k⟩:=h;have hu:=RA hr;refine⟨_,Z4 (pz Xl 2 (pc0 FS GS hr (Z9 (pv 0) Z7)))
   (Z4 (pz Xl 3 (Qf (Vz (pv 1) ZQ P8) Z Z (by simp) (by decide)))
   (Z4 (pz Xl 4 (YU (Z9 (pv 1) Z7)))
   (Z4 (pz Xl 5 Z1)
   (Z4 (Vy uf (pq V0 (pv 5) (ZM Zj (by rfl) T.len uD (Z9 (pv 4) Z7)))
    (Z4 (pz Xl 6 (pj ZF (pv 4) (pv 5)))
    (Z4 (Yd uf Z (Fc (pv 2)) (KQ Z (X7 (Zy (i:=7) Xl.nd Z (ug Z)) (X7 (Zy (i:=8) Xl.nd Z (ug Z)) Vu)))
     (Z3 (ZI (Pg (QJ hu (pj Zp (pv 8) (pv 6)) (pv 3)))
      (Z4 (Sv hu (pv 3) (pj Zp (pv 8) (pv 6)) (Zr X8 (Mp hu (pv 3) (pv 6) (fun _ _=>rfl)) (pv 7)) Z)
      (Z3 (Zq (Yz ud tN tL Xn (pv 4) (Z9 (pj Zp (pv 8) (pv 6)) Z7))))) ZH)))
    (Z3 (Pk (i:=5) Xl.nd Z (ug Z) Z1 PB)))))
   (Z3 (ZR (pv 3))))))),?_⟩
  refine⟨_,Z,a,n,r,u,Z,o9,rr,ru,hn,fun H1 ds p0 p1 p2 p3 s1 hds0 hds hp0 fD jt j5=>?_⟩;have c8:V7 H1 r u p0 p1 p2 p3:=by
   intro i p hi
   match i,hi with
   | 0,hi=>cases hi;exact hp0
   | 1,hi=>cases hi;exact fD
   | 2,hi=>cases hi;exact jt
   | 3,hi=>cases hi;exact j5
   | i+4,hi=>cases hi
  intro dp fh;refine⟨_,Z,Z0,[((ur (f:Int):Key),V.str "")],Z,by show 1<=15;decide,?_⟩;have edp:WG [] [((ur (f:Int):Key),V.str "")]=pd [f] [[]]:=by
   show Zh [] (ur (f:Int):Key) (V.str "")=_;rw[XE (kvs:=[]) _ rfl,Dr];rfl
  rw[edp];refine⟨_,Z,(by show 1<=uR;decide),fun lf gu=>?_⟩;have ak:dp≠ds:=fun e=>by rw[e,hds]at fh;cases fh
  have g0:H1 lf=none:=by
   by_cases e:lf=dp;rw[e];exact fh;rw[Z5 e,Z5 e]at gu;exact gu
  have nlf:lf≠dp:=fun e=>by rw[e,Z0]at gu;cases gu
  have cR:lf≠ds:=fun e=>by rw[e,hds]at g0;cases g0
  have Hdp:H dp=none:=s1.free fh;have Hlf:H lf=none:=s1.free g0;refine VA (fun σ H2=>∃ (F:List Nat) (P:List (List Nat)) (kk:Nat) (o6 o7 o8:Option V),σ=[some (.ref a),some (.int (f:Int)),some (.ref ds),some (.ref dp),some (.ref lf),some (.int (kk:Int)),o6,o7,o8]/\Z8 H H2/\Rd H2 ds (.dK (sts p0 p1 p2 p3))/\V7 H2 r u p0 p1 p2 p3/\
   H2 dp=some (.dK (pd F P))/\H2 lf=some (.lst (nv F))/\Pth n r u f F P kk 0) (fun σ _=>mu 5 σ) ?_ ?_ ?_
  refine⟨[f],[[]],0,_,_,_,Z,ZY (ZY (ZY s1 Hdp) Hdp) Hlf,.inl (by rw[Z5 cR.symm,Z5 ak.symm,Z5 ak.symm];exact hds),fun i p hi=>?_,by rw[Z5 nlf.symm,Z0],Z0,Pth.start hf⟩;have:=c8 i p hi;rw[Z5 (ZJ this g0),Z5 (ZJ this fh),Z5 (ZJ this fh)];exact this
  ·rintro σ H2 ⟨F,P',kk,o6,o7,o8,rfl,s2,oK,rows2,h2p,h2l,hP⟩;refine⟨_,Z,_,Z,lf,_,Z,.inl (SqL.of h2l),_,_,Z,Z,_,Z,?_⟩;rw[Zs];refine YC (fun pJ=>?_) (fun jZ=>?_)
   ·have pJ:(kk:Int)<(F.length:Int):=uF pJ;have hk:kk<F.length:=(by lia);have hx:F[kk]?=some F[kk]:=yR hk;have j9:F[kk]<n:=hP.lt _ (xJ hk);refine⟨_,Z,_,Z,lf,_,_,_,Z,Z,SqL.of h2l,ZU (Zd hx),?_⟩;have start:∀ (o:Obj) (H3:Hp),Z8 H H3->H3 ds=some (.frz o (.dK (sts p0 p1 p2 p3)))->V7 H3 r u p0 p1 p2 p3->H3 dp=some (.dK (pd F P'))->H3 lf=some (.lst (nv F))->PIn n r u f a ds dp lf kk F[kk] p0 p1 p2 p3 H o 0
      [some (.ref a),some (.int (f:Int)),some (.ref ds),some (.ref dp),some (.ref lf),some (.int (kk:Int)),some (.int (F[kk]:Int)),o7,o8] H3:=fun o H3 e1 e2 e3 e4 e5=>⟨F,P',_,_,rfl,e1,e2,e3,e4,e5,hP,hx⟩
    have turn:∀ (o:Obj) (i:Nat) (ky:Key) (v:V) (σ:St) (H3:Hp) (T':Addr),(sts p0 p1 p2 p3)[i]?=some (ky,v)->H3 T'=none->PIn n r u f a ds dp lf kk F[kk] p0 p1 p2 p3 H o i σ H3->∃ (F1:List Nat) (P1:List (List Nat)) (p:Addr),i<4/\ky=uN (pth [i])/\v=.ref p/\
      (∃ o7 o8,σ=[some (.ref a),some (.int (f:Int)),some (.ref ds),some (.ref dp),some (.ref lf),some (.int (kk:Int)),some (.int (F[kk]:Int)),o7,o8])/\Z8 H (upd H3 T' (.tup [kV ky,v]))/\(upd H3 T' (.tup [kV ky,v])) ds=some (.frz o (.dK (sts p0 p1 p2 p3)))/\
      V7 (upd H3 T' (.tup [kV ky,v])) r u p0 p1 p2 p3/\(upd H3 T' (.tup [kV ky,v])) p=some (.tup (nv (rw4 r u i)))/\(upd H3 T' (.tup [kV ky,v])) dp=some (.dK (pd F1 P1))/\(upd H3 T' (.tup [kV ky,v])) lf=some (.lst (nv F1))/\Pth n r u f F1 P1 kk i/\F1[kk]?=some F[kk]:=by
     rintro o i ky v σ H3 T' hi hT ⟨F1,P1,o7,o8,rfl,e1,e2,e3,e4,e5,e6,e7⟩;obtain⟨hi4,rfl,p,rfl,hpi⟩:=C6 hi;have j5:=e3 i p hpi;refine⟨F1,P1,p,hi4,Z,Z,⟨_,_,Z⟩,ZY e1 (e1.free hT),by rw[Z5 (ZJ e2 hT)];exact e2,fun j q hq=>?_,by rw[Z5 (ZJ j5 hT)];exact j5,by rw[Z5 (ZJ e4 hT)];exact e4,by rw[Z5 (ZJ e5 hT)];exact e5,e6,e7⟩;have:=e3 j q hq;rw[Z5 (ZJ this hT)];exact this
    refine⟨_,Z,ds,sts p0 p1 p2 p3,Z,oK,fun o H3 h3s h3o=>?_⟩;have fC:∀ b w',H2 b=some w'->(∀ o,w'≠.frz o (.dK (sts p0 p1 p2 p3)))->w'≠.dK (sts p0 p1 p2 p3)->H3 b=some w':=fun b w' e c1 c2=>by
     have hb:b≠ds:=fun z=>by
      subst z;rcases oK with q|⟨o',q⟩;rw[e]at q;exact c2 (uz.inj q);rw[e]at q;exact c1 o' (uz.inj q)
     rw[h3o b hb];exact e
    have e1:Z8 H H3:=fun b w' e=>by
     rw[h3o b (ZJ e hds0)];exact s2 b w' e
    have e3:V7 H3 r u p0 p1 p2 p3:=fun i p hi=>fC _ _ (rows2 i p hi) (fun _ z=>nomatch z) (fun z=>nomatch z);have ndps:dp≠ds:=ak;have e4:H3 dp=some (.dK (pd F P')):=(by rw[h3o dp ndps];exact h2p);have e5:H3 lf=some (.lst (nv F)):=(by rw[h3o lf cR];exact h2l);refine Gp (a:=ds) (kvs:=sts p0 p1 p2 p3) (o:=o) (PIn n r u f a ds dp lf kk F[kk] p0 p1 p2 p3 H o) (start o H3 e1 h3s e3 e4 e5) (fun i σ H4 _ ⟨_,_,_,_,_,_,e,_⟩=>e) ?_ ?_;intro i ky v σ H4 T' hi hT lZ;obtain⟨F1,P1,p,hi4,rfl,rfl,⟨q7,q8,rfl⟩,f1,f2,f3,f4,f5,f6,f7,f8⟩:=turn o i ky v σ H4 T' hi hT lZ;generalize hH5:upd H4 T' (.tup [kV (uN (pth [i])),.ref p])=H5 at f1 f2 f3 f4 f5 f6 ⊢;have f0:H5 T'=some (.tup [kV (uN (pth [i])),.ref p]):=(by rw[<-hH5];exact Z0);have j7:=PX rr ru i;have hk1:kk<F1.length:=(yP.mp f8).1;have hFl:=f7.flen;refine⟨T',_,Z,SqT.of f0,Z,_,_,Z,_,_,Z,Z,?_⟩;refine⟨_,Z,_,Z,p,_,_,_,Z,Z,SqT.of f4,ZU (Zd (j7.get j9)),_,Z,dp,_,Z,XQ.k (k:=(ur ((nx (rw4 r u i) F[kk]:Nat):Int):Key)) f5,_,Z,?_⟩;by_cases hy:nx (rw4 r u i) F[kk]∈F1;obtain⟨j,hj,ej⟩:=yc.mp hy;have hj1:F1[j]?=some (nx (rw4 r u i) F[kk]):=(by rw[yR hj,ej]);have hj2:j<P1.length:=(by rw[f7.len];exact hj);rw[Qg f7.nd hj1 (yR hj2)];refine ZZ ?_;exact⟨F1,P1,_,_,Z,f1,f2,f3,f5,f6,f7.old f8 hy,f8⟩;rw[Ls f7.len hy];refine ZP ?_;have i5:kk<P1.length:=(by rw[f7.len];exact hk1);obtain⟨pk,hpk⟩:∃ pk,P1[kk]?=some pk:=⟨_,yR i5⟩;have hlen:=(f7.ok kk _ pk f8 hpk).2.1;have hg:=XQ.k (k:=(ur ((F[kk]:Nat):Int):Key)) f5;rw[Qg f7.nd f8 hpk]at hg;refine⟨_,Z,_,Z,dp,_,Z,hg,_,Z,_,_,Z,Z,?_,?_⟩;rw[L6,L6];exact wK (YN (by show pk.length+1<=1000;lia));refine⟨_,Z,_,Z,_,Z,p,_,_,_,Z,Z,SqT.of f4,ZU (Zd (j7.get j9)),dp,_,Z,Wu.k (k:=(ur ((nx (rw4 r u i) F[kk]:Nat):Int):Key)) f5 (by rw[Bq f7.len];exact YN (by lia)),?_⟩;rw[XE _ (Ls f7.len hy),EB,<-C4 f7.len];generalize eW:upd H5 dp (.dK (pd (F1++[nx (rw4 r u i) F[kk]]) (P1++[pk++[i]])))=H6;have g1:Z8 H H6:=(by rw[<-eW];exact ZY f1 Hdp);have g2:H6 ds=some (.frz o (.dK (sts p0 p1 p2 p3))):=(by rw[<-eW,Z5 ak.symm];exact f2);have g3:V7 H6 r u p0 p1 p2 p3:=fun j q hq=>by
     have:=f3 j q hq;rw[<-eW,Z5 (TQ this f5 (by intro z;cases z))];exact this
    have g4:H6 p=some (.tup (nv (rw4 r u i))):=(by rw[<-eW,Z5 (TQ f4 f5 (by intro z;cases z))];exact f4);have g5:H6 dp=some (.dK (pd (F1++[nx (rw4 r u i) F[kk]]) (P1++[pk++[i]]))):=(by rw[<-eW];exact Z0);have g6:H6 lf=some (.lst (nv F1)):=(by rw[<-eW,Z5 nlf];exact f6);refine⟨_,Z,.inl ⟨Z,_,SqL.of g6⟩,_,Z,_,Z,p,_,_,_,Z,Z,SqT.of g4,ZU (Zd (j7.get j9)),lf,_,_,Z,Z,g6,?_,?_⟩;rw[Zs];exact YN (by lia);refine⟨_,_,_,_,Z,ZY g1 Hlf,by rw[Z5 cR.symm];exact g2,fun j q hq=>?_,by rw[Z5 nlf.symm];exact g5,by rw[Z0,Qa],f7.new rr ru hi4 f8 hpk hy,?_⟩;have:=g3 j q hq;rw[Z5 (TQ this g6 (by intro z;cases z))];exact this;rw[yq hk1];exact f8
    ·rintro σ H4 ⟨F1,P1,q7,q8,rfl,f1,f2,f3,f5,f6,f7,f8⟩;refine⟨_,Z,_,_,Z,Z,⟨F1,P1,kk+1,_,_,_,Z,f1,.inr ⟨o,f2⟩,f3,f5,f6,f7.next f8⟩,?_⟩;show (100-((kk:Int)+1)).toNat<(100-(kk:Int)).toNat;have:=f7.flen;have:=(yP.mp f8).1;lia
   have jZ:¬ (kk:Int)<(F.length:Int):=fun z=>jZ (uO z);exact⟨_,Z,k H2 dp F P' s2 Hdp h2p (hP.all (by lia))⟩
  rintro σ H Q Q' h ⟨v,e1,v',e2,p,ys,e3,sq,i,j,e4,e5,k,e6,q⟩;exact⟨v,e1,v',e2,p,ys,e3,sq,i,j,e4,e5,k,e6,h _ _ q⟩
def OQ:Sp:=fun vs H Q _=>∃ (a:Addr) (n:Nat) (r u:List Nat),vs=[.ref a]/\ZV H a r u/\ZW n r u/\∀ H':Hp,Z8 H H'->Q (.str (txt (ZA r++[32]++ZA u))) H'
variable{u:List Nat}
theorem ZW.lt36 (h:ZW n r u):(∀ x∈r,x<36)/\∀ x∈u,x<36:=
 ⟨fun x hx=>yz (h.row.lt x hx) h.most,fun x hx=>yz (h.col.lt x hx) h.most⟩
theorem ZW.len36 (h:ZW n r u):r.length<=36/\u.length<=36:=⟨by rw[h.row.len];exact h.most,by rw[h.col.len];exact h.most⟩
theorem OS:ZT ["sheet","right","up"] ["sheet"] (Z2 RN):=fsc (by decide +kernel)
theorem B1 (F:Fn K mg "shown" RN ["sheet"] f fd)(FS:Fn K mg "signs_of" UI ["row"] fs iB)(GS:Z6 P w K mg base CX0 1 fs iB ["row"] (NR K)) :
  Z6 P w K mg base CX0 2 f fd ["sheet"] OQ:=by
 refine F.F.ok OS (fun vs H Q E h=>?_) (fun pK A outer s H vs Q E hr h=>?_);obtain⟨a,n,r,u,rfl,_⟩:=h;rfl;obtain⟨a,n,r,u,rfl,o9,hS,k⟩:=h;obtain⟨p,q,h1,h2,h3⟩:=id o9;refine⟨_,Z4 (pz OS 1 (pc0 FS GS hr (Z9 (pj Zp (pv 0) Z1) Z7)))
  (Z4 (pz OS 2 (pc0 FS GS hr (Z9 (pj Zp (pv 0) Z1) Z7)))
  (Z3 (ZR (Vw (.cons (LI (pv 1)) (.cons ZQ (.cons (LI (pv 2)) .nil))))))),?_⟩
 refine⟨_,Z,a,_,0,_,Z,Z,SqT.of h1,ZU (j:=0) Z,p,r,Z,.inl (SqT.of h2),(ZW.lt36 hS).1,by have:=(ZW.len36 hS).1;omega,fun H1 s1=>?_⟩;refine⟨_,Z,a,_,1,_,Z,Z,SqT.of (s1 _ _ h1),ZU (j:=1) Z,q,u,Z,.inl (SqT.of (s1 _ _ h3)),(ZW.lt36 hS).2,by have:=(ZW.len36 hS).2;omega,fun H2 s2=>?_⟩;have l1:=(ZW.len36 hS).1;have l2:=(ZW.len36 hS).2;have e0:(tu:Str)=txt []:=rfl;refine⟨_,Z,_,Z,by rw[ZD,YB];exact WL (by omega),_,Z,?_,?_⟩;rw[e0,Yh,ZD];exact WL (by simp[YB];omega);rw[e0,Yh,wL];refine⟨_,Z,?_,?_⟩;rw[Wk,Yh,ZD];exact WL (by simp[YB];omega);rw[Wk,Yh];refine⟨_,Z,_,Z,by rw[ZD,YB];exact WL (by omega),_,Z,?_,?_⟩;rw[Yh,ZD];exact WL (by simp[YB];omega);rw[Yh];exact k H2 (s1.trans s2)
variable{rest:St}
theorem Gk {m:Nat}{ta:TA}(g:Nat->Nat)(hj:∀ R:List V->Hp->Prop,R [.int (m:Int)] Hc->ta σ Hc R)(hb:bst 1 pull σ=none::rest)
  (gE:∀ (i:Nat) (H:Hp) (R:VK),i<m->Z8 Hc H->R (.int (g i:Int)) H->te (some (.int (i:Int))::rest) H R) (hm:m<=1000)
  (k:∀ (H':Hp) (d:Addr),Z8 Hc H'->Hc d=none->H' d=some (.lst (nv ((yI m).map g)))->Q (.ref d) H') :
  YK (O6 ta) 1 pull (ZO 0) te σ Hc Q:=by
 refine hj _ ⟨(m:Int),rfl,by omega,by omega,fun d hd=>?_⟩;rw[yh,hb];refine XB (J:=Itr 0 m) (Q:=fun d H'=>Q (.ref d) H') m (nv ((yI m).map g)) (by rw[Zs];simp) (fun i σ H9=>(∃ o,σ=o::rest)/\Z8 Hc H9) ⟨⟨_,rfl⟩,ZY (Z8.refl _) hd⟩ ?_ ?_;rintro i σ H9 hi ⟨⟨o,rfl⟩,s9⟩ hd9;refine⟨hi,fun x H4 ⟨e1,e2⟩=>?_⟩;subst e1 e2;rw[show (0:Int)+(i:Int)=(i:Int) from by omega];refine gE i _ _ hi s9 ?_;refine Xc hi (by omega) hd9 (Zd (by simp[hi])) ⟨⟨_,rfl⟩,ZY s9 hd⟩;rintro σ H9 ⟨⟨o,rfl⟩,s9⟩ hd9;exact⟨yO _,k H9 d s9 hd hd9⟩
theorem Ga {p:Addr}(g:Nat->Nat)(hj:σ[j]?=some (some (.ref p)))(hp:SqT K Hc p (nv r))(hb:bst 1 pull σ=none::rest)
  (gE:∀ (x:Nat) (H:Hp) (R:VK),x∈r->Z8 Hc H->R (.int (g x:Int)) H->te (some (.int (x:Int))::rest) H R) (hn:r.length<=1000)
  (k:∀ (H':Hp) (d:Addr),Z8 Hc H'->Hc d=none->H' d=some (.lst (nv (r.map g)))->Q (.ref d) H') :
  YK (Rg K (ZN j)) 1 pull (ZO 0) te σ Hc Q:=by
 refine⟨_,hj,p,Z,⟨_,hp⟩,fun d hd=>?_⟩;rw[hb];refine XB (Q:=fun d H'=>Q (.ref d) H') r.length (nv (r.map g)) (by rw[Zs];simp) (fun i σ H3=>(∃ o,σ=o::rest)/\Z8 Hc H3) ⟨⟨_,rfl⟩,ZY (Z8.refl _) hd⟩ ?_ ?_;rintro i σ H3 hi ⟨⟨o,rfl⟩,s3⟩ pE;have j5:=Z8.tseq s3 hp;have hg:=Zd (yR hi);refine⟨⟨_,_,j5,hg⟩,fun y H4 ⟨e,hy⟩=>?_⟩;subst e;have hy:=hy _ j5;rw[hg]at hy;cases hy;refine gE _ _ _ (xJ hi) s3 ?_;exact Xc hi hn pE (Zd (by simp[hi])) ⟨⟨_,rfl⟩,ZY s3 hd⟩;rintro σ H3 ⟨⟨o,rfl⟩,s3⟩ pE;exact⟨⟨_,Z8.tseq s3 hp,by rw[Zs];exact yO _⟩,k H3 d s3 hd pE⟩
def Kh:Sp:=fun vs H Q _=>∃ (a:Addr) (n:Nat) (r u:List Nat),vs=[.ref a]/\ZV H a r u/\Row n r/\Row n u/\n<=36/\∀ (H':Hp) (b:Addr),Z8 H H'->ZV H' b r (cmp n u (back r))->Q (.ref b) H'
def Pe:Sp:=fun vs H Q _=>∃ (a:Addr) (n:Nat) (r u:List Nat),vs=[.ref a]/\ZV H a r u/\Row n r/\Row n u/\n<=36/\∀ (H':Hp) (b:Addr),Z8 H H'->ZV H' b (back u) r->Q (.ref b) H'
theorem Dx {v:List Nat}(hv:Row n v):v.map (fun x=>nx u x)=cmp n u v:=by
 refine List.ext_getElem? fun i=>?_;by_cases hi:i<n;have h1:=hv.get hi;rw[yw,h1];show some (nx u (nx v i))=((yI n).map fun i=>nx u (nx v i))[i]?;rw[yw,wH hi];rfl;have:¬ i<(cmp n u v).length:=by show ¬ i<((yI n).map _).length;rw[yK,wM];exact hi
 rw[xO (by rw[yK,hv.len];omega),xO (by omega)]
noncomputable abbrev JM:List Str:=["sheet","left"]
theorem Ks:ZT JM ["sheet"] (Z2 UA):=fsc (by decide +kernel)
theorem BY:(["square","sheet"]:List Str).Nodup:=by decide +kernel
theorem A6 {db:uC}(T:Bi mg)(F:Fn K mg "sheared" UA ["sheet"] f fd)(FB:Fn K mg "back_row" XF ["row"] fb db)(GB:Z6 P w K mg base CX0 1 fb db ["row"] S6):Z6 P w K mg base CX0 2 f fd ["sheet"] Kh:=by
 refine F.F.ok Ks (fun vs H Q E h=>?_) (fun pK A outer s H vs Q E hr h=>?_);obtain⟨a,n,r,u,rfl,_⟩:=h;rfl;obtain⟨a,n,r,u,rfl,⟨p,q,h1,h2,h3⟩,rr,ru,hn,k⟩:=h;refine⟨_,(Z4 (pz Ks 1 (pc0 FB GB hr (Z9 (pj Zp (pv 0) Z1) Z7)))
  (Z3 (ZR (YV (Z9 (pj Zp (pv 0) Z1) (Z9 (Y0 VM Z T.tuple Wo (Z9 (X4 (N:=JM) (names:=(Z2 UA).names) (N':=["square","sheet"]) (k:=1) (pull:=[0]) (te:=(tOp (Re K) (tOp (Re K) (ZN 1) (tC (.int 1))) (ZN 0))) Z (bsc (by decide +kernel)) Z Z (Vn (pv 1)) (fun _ _ _ _ _ _=>Zy (i:=0) BY Z (ug Z)) (fun _ _ _ _ _ _=>(pj Zp (pj Zp (pv 1) Z1) (pv 0)))) Z7)) Z7)))))),?_⟩
 refine⟨_,Z,a,_,0,_,Z,Z,SqT.of h1,ZU (j:=0) Z,p,n,r,Z,h2,rr,hn,fun H1 l s1 hl=>?_⟩;refine⟨_,Z,a,_,0,_,Z,Z,SqT.of (s1 _ _ h1),ZU (j:=0) Z,?_⟩;dsimp only [ZL,tCB];refine Ga (r:=back r) (rest:=[some (.ref a)]) (fun x=>nx u x) rfl (SqT.of hl) rfl (fun x H3 R hx s3 hR=>?_) (by rw[rr.back.len];omega) fun H3 d s3 _ pE=>?_;have iH:=s1.trans s3;exact⟨_,Z,a,_,1,_,Z,Z,SqT.of (iH _ _ h1),ZU (j:=1) Z,_,Z,q,_,_,_,Z,Z,SqT.of (iH _ _ h3),ZU (Zd (ru.get (rr.back.lt x hx))),hR⟩;rw[Dx rr.back]at pE;refine⟨d,_,Z,.inl ⟨SqL.of pE,fun t ht=>?_⟩⟩;have s4:=ZY (o:=.tup (nv (cmp n u (back r)))) (s1.trans s3) ((s1.trans s3).free ht);refine⟨by show 2<=uR;decide,fun b hb=>k _ b (ZY s4 (s4.free hb)) ⟨p,t,Z0,?_,?_⟩⟩;have:=s4 _ _ h2;rw[Z5 (ZJ this hb)];exact this;have:(upd H3 t (.tup (nv (cmp n u (back r))))) t=some (.tup (nv (cmp n u (back r)))):=Z0;rw[Z5 (ZJ this hb)];exact this
noncomputable abbrev zV:List Str:=["sheet"]
theorem AQ:ZT zV ["sheet"] (Z2 Ul):=fsc (by decide +kernel)
theorem Ci {db:uC}(F:Fn K mg "turned" Ul ["sheet"] f fd)(FB:Fn K mg "back_row" XF ["row"] fb db)(GB:Z6 P w K mg base CX0 1 fb db ["row"] S6):Z6 P w K mg base CX0 2 f fd ["sheet"] Pe:=by
 refine F.F.ok AQ (fun vs H Q E h=>?_) (fun pK A outer s H vs Q E hr h=>?_);obtain⟨a,n,r,u,rfl,_⟩:=h;rfl;obtain⟨a,n,r,u,rfl,⟨p,q,h1,h2,h3⟩,rr,ru,hn,k⟩:=h;refine⟨_,(Z3 (ZR (YV (Z9 (pc0 FB GB hr (Z9 (pj Zp (pv 0) Z1) Z7)) (Z9 (pj Zp (pv 0) Z1) Z7))))),?_⟩;refine⟨_,Z,a,_,1,_,Z,Z,SqT.of h1,ZU (j:=1) Z,q,n,u,Z,h3,ru,hn,fun H1 l s1 hl=>?_⟩;refine⟨_,Z,a,_,0,_,Z,Z,SqT.of (s1 _ _ h1),ZU (j:=0) Z,by show 2<=uR;decide,fun b hb=>?_⟩;refine k _ b (ZY s1 (s1.free hb)) ⟨l,p,Z0,?_,?_⟩;rw[Z5 (ZJ hl hb)];exact hl;have:=s1 _ _ h2;rw[Z5 (ZJ this hb)];exact this
noncomputable abbrev Sa:Stmt:=Yq JT 1
def Mr (C:Addr):Sp:=fun vs H Q _=>∃ (a c:Addr) (n:Nat) (r u:List Nat) (m:Int),vs=[.ref a,.ref c]/\D1 C H a m/\ZV H c r u/\Row n r/\Row n u/\n<=36/\∀ (H':Hp) (l:Addr),Z8 H H'->ZV H' l (tn (m%4).toNat (r,u)).1 (tn (m%4).toNat (r,u)).2->Q (.ref l) H'
theorem Kx {n:Nat}:∀ (k:Nat) {x:List Nat×List Nat},Row n x.1/\Row n x.2->Row n (tn k x).1/\Row n (tn k x).2
 | 0,_,h=>h
 | k+1,x,h=>Kx k (x:=(back x.2,x.1)) ⟨h.2.back,h.1⟩
theorem Ed (k:Nat)(x:List Nat×List Nat):tn (k+1) x=(back (tn k x).2,(tn k x).1):=by
 rw[<-KL k 1];rfl
theorem S3:ZT ["self","sheet","told","once"] ["self","sheet"] (Z2 Sa):=fsc (by decide +kernel)
variable{ft:Addr}
theorem Hb {dt:uC}(TB:Bi mg)(T:DTx K C)(FT:Fn K mg "turned" Ul ["sheet"] ft dt)(GT:Z6 P w K mg base CX0 2 ft dt ["sheet"] Pe)(F:MFn K C "done" "Turn.done" Sa ["self","sheet"] f fd):Z6 P w K mg base CX0 3 f fd ["self","sheet"] (Mr C):=by
 refine F.F.ok S3 (fun vs H Q E h=>?_) (fun pK A outer s H vs Q E hr h=>?_);obtain⟨a,c,n,r,u,m,rfl,_⟩:=h;rfl;obtain⟨a,c,n,r,u,m,rfl,⟨dp,hp⟩,hc,rr,ru,hn,k⟩:=h;refine⟨_,Z4 (pz S3 2 (pv 1))
  (Z4 (Yd uf Z (UQ Z TB.range (Z9 (Zr Xe (YM (pv 0) Z) Z1) Z7)) (Zy (i:=3) S3.nd Z (ug Z)) (Z3 (pz S3 2 (pc0 FT GT hr (Z9 (pv 2) Z7)))))
  (Z3 (ZR (pv 2)))),?_⟩
 obtain⟨N,hN⟩:∃ N:Nat,m%4=(N:Int):=⟨(m%4).toNat,by omega⟩;refine⟨_,Z,_,Z,a,C,dp,_,_,Z,hp,T.cl,T.nM,Ma _,_,_,Z,Z,(by show (0:Int)<4;decide),(N:Int),by show [V.int (m%4)]=_;rw[hN],by omega,by omega,?_⟩;rw[yh];rw[hN,yh]at k;refine NC (n:=N) (fun i σ H2=>∃ (l:Addr) (o:Option V),σ=[some (.ref a),some (.ref c),some (.ref l),o]/\Z8 H H2/\ZV H2 l (tn i (r,u)).1 (tn i (r,u)).2) ⟨c,none,rfl,Z8.refl _,hc⟩ ?_ ?_;rintro i σ H2 hi ⟨l,o,rfl,s2,hl⟩;have rw2:=Kx i (x:=(r,u)) ⟨rr,ru⟩;refine⟨_,Z,l,n,_,_,Z,hl,rw2.1,rw2.2,hn,fun H3 b s3 hb=>?_⟩;exact⟨b,_,Z,s2.trans s3,by rw[Ed];exact hb⟩;rintro σ H2 ⟨l,o,rfl,s2,hl⟩;exact⟨_,Z,k H2 l s2 hl⟩
def Pm (K:yS):Sp:=fun vs H Q _=>∃ (p:Addr) (n:Nat) (r:List Nat) (x:Nat),vs=[.ref p,.int (x:Int)]/\XJ K H p r/\Row n r/\x<n/\n<=36/\
 ∀ (H':Hp) (l:Addr) (M:List Nat),Z8 H H'->H l=none->H' l=some (.lst (nv M))->Cyc r x M->Q (.ref l) H'
noncomputable def muL (l:Addr)(H:Hp):Nat:=match H l with
 | some (.lst xs)=>100-xs.length
 | _=>0
variable{xs:List V}
theorem KR {l:Addr}(h:H l=some (.lst xs)):muL l H=100-xs.length:=by unfold muL;rw[h]
theorem Ef {M:List Nat}(hk:M.length=k+1)(h:M[k]?=some y):atI (nv M) (-1)=some (.int (y:Int)):=by
 unfold atI ixN;rw[uL (by decide),uK (by rw[Zs];omega)];show (nv M)[((-1:Int)+((nv M).length:Int)).toNat]?=_;rw[Zs,hk,show ((-1:Int)+((k+1:Nat):Int)).toNat=k from by omega];exact Zd h
theorem EN {x y:V}{Q':VK}(h:∀ v H1,Q v H1->Q' v H1)(q:rIx K x y H Q):rIx K x y H Q':=by
 rcases q with ⟨a,xs,i,v,q1,q2,q3,q4,q⟩|⟨a,xs,i,v,q1,q2,q3,q4,q⟩|⟨z,i,v,q1,q2,q3,q4,q⟩;exact .inl ⟨a,xs,i,v,q1,q2,q3,q4,h _ _ q⟩;exact .inr (.inl ⟨a,xs,i,v,q1,q2,q3,q4,h _ _ q⟩);exact .inr (.inr ⟨z,i,v,q1,q2,q3,q4,h _ _ q⟩)
noncomputable abbrev nCy:List Str:=["row","first","met"]
theorem scCy:ZT nCy ["row","first"] (Z2 Ta):=fsc (by decide +kernel)
theorem DD (F:Fn K mg "cycle_from" Ta ["row","first"] f fd):Z6 P w K mg base CX0 1 f fd ["row","first"] (Pm K):=by
 refine F.F.ok scCy (fun vs H Q E h=>?_) (fun pK A outer s H vs Q E hr h=>?_);obtain⟨p,n,r,x,rfl,_⟩:=h;rfl;obtain⟨p,n,r,x,rfl,hp,rr,hx,hn,k⟩:=h;refine⟨_,Z4 (pz scCy 2 (YU (Z9 (pv 1) Z7)))
  (Z4 (Vy uf (pq Xb (pj RY (pv 0) (pj ZF (pv 2) (Va Vj Z1))) (pv 1))
   (Z3 (Zq (Yz ud tN tL Xn (pv 2) (Z9 (pj RY (pv 0) (pj ZF (pv 2) (Va Vj Z1))) Z7)))))
  (Z3 (ZR (pv 2)))),?_⟩
 refine⟨_,Z,(by show 1<=uR;decide),fun l hl=>?_⟩;refine VA (fun σ H2=>∃ k,σ=[some (.ref p),some (.int (x:Int)),some (.ref l)]/\Z8 H H2/\H2 l=some (.lst (nv ((yI (k+1)).map (it r x))))/\∀ i,1<=i->i<k+1->it r x i≠x) (fun _ H=>muL l H) ?_ ?_ ?_;exact⟨0,Z,ZY (Z8.refl H) hl,Z0,fun i h1 h2=>absurd h2 (by omega)⟩;rintro σ H2 ⟨kk,rfl,s2,h2,new⟩;have hlen:=Kp rr hx new;have hM:((yI (kk+1)).map (it r x)).length=kk+1:=by simp
 have iE:=Ef hM (show ((yI (kk+1)).map (it r x))[kk]?=some (it r x kk) by simp);have pJ:=Y4 rr hx kk;refine⟨_,Z,_,Z,_,Z,l,_,_,_,Z,Z,SqL.of h2,iE,?_⟩;refine Rp (hp.same s2) rr pJ ?_;refine⟨_,Z,Z,_,Z,?_⟩;by_cases e:nx r (it r x kk)=x;refine J7 (by rw[e]) ?_;refine⟨_,Z,k H2 l _ s2 hl h2 ⟨by rw[hM];omega,by rw[hM],by rw[hM];exact e,by rw[hM];exact new⟩⟩;rw[uJ (by intro z;have:=V.int.inj z;exact e (by omega))];refine ZP ?_;refine⟨_,Z,.inl ⟨Z,_,SqL.of h2⟩,_,Z,_,Z,_,Z,l,_,_,_,Z,Z,SqL.of h2,iE,?_⟩;refine Rp (hp.same s2) rr pJ ?_;refine⟨l,_,_,Z,Z,h2,by rw[Zs,hM];exact YN (by omega),?_⟩;have e2:nv ((yI (kk+1)).map (it r x))++[.int ((nx r (it r x kk):Nat):Int)]=nv ((yI (kk+1+1)).map (it r x)):=by
  rw[Qa,vX (n:=kk+1),ym];rfl
 rw[e2];refine⟨⟨kk+1,Z,ZY s2 hl,Z0,fun i h1 h2'=>?_⟩,?_⟩;rcases yb i (kk+1) with c|c;exact new i h1 c;have:i=kk+1:=by omega
 subst this;exact e;rw[KR Z0,KR h2,Zs,Zs,hM];simp;omega;rintro σ H Q Q' h h2;obtain⟨v,e1,v1,e2,v2,e3,q⟩:=h2;refine⟨v,e1,v1,e2,v2,e3,?_⟩;obtain⟨a,xs,i,v,q1,q2,q3,q4,q⟩:=q;refine⟨a,xs,i,v,q1,q2,q3,q4,?_⟩;exact EN (fun x H1 ⟨v',e,q5,w',e',q6⟩=>⟨v',e,q5,w',e',h _ _ q6⟩) q
def Za (H:Hp):List Addr->List (List Nat)->Prop
 | [],[]=>True
 | a::as,M::Ms=>H a=some (.lst (nv M))/\Za H as Ms
 | _,_=>False
theorem Za.same {H H':Hp}(e:Z8 H H'):∀ {as:List Addr} {Ms:List (List Nat)},Za H as Ms->Za H' as Ms
 | [],[],_=>trivial
 | _::_,_::_,⟨h1,h2⟩=>⟨e _ _ h1,Za.same e h2⟩
 | [],_::_,h=>h.elim
 | _::_,[],h=>h.elim
theorem Za.len {H:Hp}:∀ {as:List Addr} {Ms:List (List Nat)},Za H as Ms->as.length=Ms.length
 | [],[],_=>rfl
 | _::as,_::Ms,⟨_,h2⟩=>by simp[Za.len h2]
 | [],_::_,h=>h.elim
 | _::_,[],h=>h.elim
theorem Za.get {H:Hp}:∀ {as:List Addr} {Ms:List (List Nat)},Za H as Ms->∀ {i:Nat} {a:Addr},as[i]?=some a->∃ M,Ms[i]?=some M/\H a=some (.lst (nv M))
 | [],[],_,i,a,h=>by simp at h
 | b::as,M::Ms,⟨h1,h2⟩,0,a,h=>by simp at h;subst h;exact⟨M,Z,h1⟩
 | b::as,M::Ms,⟨h1,h2⟩,i+1,a,h=>by
  obtain⟨M',e1,e2⟩:=Za.get h2 (i:=i) (a:=a) (by simpa using h);exact⟨M',by simpa using e1,e2⟩
 | [],_::_,h,_,_,_=>h.elim
 | _::_,[],h,_,_,_=>h.elim
theorem Za.snoc {H:Hp}:∀ {as:List Addr} {Ms:List (List Nat)} {a:Addr} {M:List Nat},Za H as Ms->H a=some (.lst (nv M))->Za H (as++[a]) (Ms++[M])
 | [],[],_,_,_,h=>⟨h,trivial⟩
 | _::_,_::_,_,_,⟨h1,h2⟩,h=>⟨h1,Za.snoc h2 h⟩
 | [],_::_,_,_,h,_=>h.elim
 | _::_,[],_,_,h,_=>h.elim
theorem Za.updN {H:Hp}{d:Addr}{o o':HO}(hd:H d=some o'):∀ {as:List Addr} {Ms:List (List Nat)},Za H as Ms->(∀ a∈as,a≠d)->Za (upd H d o) as Ms
 | [],[],_,_=>trivial
 | a::_,_::_,⟨h1,h2⟩,hn=>⟨by rw[Z5 (hn a (by simp))];exact h1,Za.updN hd h2 fun b hb=>hn b (by simp[hb])⟩
 | [],_::_,h,_=>h.elim
 | _::_,[],h,_=>h.elim
noncomputable def rv (as:List Addr):List V:=as.map V.ref
theorem LB (as:List Addr)(a:Addr):rv as++[.ref a]=rv (as++[a]):=by simp[rv]
theorem T7 (as:List Addr):(rv as).length=as.length:=by simp[rv]
variable{as:List Addr}{a:Addr}
theorem Pw (h:as[i]?=some a):(rv as)[i]?=some (.ref a):=by simp[rv,h]
theorem Ay (M:List Nat):nv M=(M.map fun (x:Nat)=>(x:Int)).map V.int:=by simp[nv]
def M8 (K:yS):Sp:=fun vs H Q _=>∃ (p:Addr) (n:Nat) (r:List Nat),vs=[.ref p]/\XJ K H p r/\Row n r/\n<=36/\
 ∀ (H':Hp) (l:Addr) (as:List Addr),Z8 H H'->H l=none->H' l=some (.lst (rv as))->(∀ a∈as,H a=none)->Za H' as (Ye n r)->Q (.ref l) H'
theorem Hx (hi:i<n):(yI n)[i]?=some i:=wH hi
noncomputable abbrev nCs:List Str:=["row","found"]
theorem scCs:ZT nCs ["row"] (Z2 Vt):=fsc (by decide +kernel)
theorem Af:(["first","row"]:List Str).Nodup:=by decide +kernel
theorem yZ:(["cycle"]:List Str).Nodup:=by decide +kernel
theorem Gi {fdc:uC}(T:Bi mg)(Tm:mg "min"=none)(F:Fn K mg "cycles" Vt ["row"] f fd)(FC:Fn K mg "cycle_from" Ta ["row","first"] fc fdc)(GC:Z6 P w K mg base CX0 1 fc fdc ["row","first"] (Pm K)) :
  Z6 P w K mg base CX0 2 f fd ["row"] (M8 K):=by
 refine F.F.ok scCs (fun vs H Q E h=>?_) (fun pK A outer s H vs Q E hr h=>?_);obtain⟨p,n,r,rfl,_⟩:=h;rfl
 ·obtain⟨p,n,r,rfl,hp,rr,hn,k⟩:=h;refine⟨_,Z4 (LU (j:=1) (N:=nCs) (names:=(Z2 Vt).names) (N':=["first","row"]) (k:=1) (pull:=[0]) (te:=YR (Pm K) [] E0 (ZL (ZN 1) (ZL (ZN 0) ZG))) Z scCs.nd Z rfl
     (bsc (by decide +kernel)) Z Z (UQ Z T.range (Z9 (ZM Zj Z T.len uD (Z9 (pv 0) Z7)) Z7)) (fun _ _ _ _ _ _=>Zy (i:=0) Af Z (ug Z))
     (fun _ _ _ _ _ _=>pc0 FC GC hr (Z9 (pv 1) (Z9 (pv 0) Z7))))
   (Z3 (ZR (Gx (N:=nCs) (names:=(Z2 Vt).names) (N':=["cycle"]) (k:=1) (pull:=[]) (tt:=U8 (tOp rEq (tOp (Ot K) (ZN 0) (tC (.int 0))) (tCB (fun xs H Q=>∃ (p:Addr) (ns:List Int),xs=[.ref p]/\SqL K H p (ns.map V.int)/\ns≠[]/\∀ m,m∈ns->(∀ y∈ns,m<=y)->Q (.int m) H) (ZL (ZN 0) ZG)))) (te:=ZN 0) rfl
     (bsc (by decide +kernel)) Z Z (XC (pv 1)) (fun _ _ _ _ _ _=>Zy (i:=0) yZ Z (ug Z))
     (fun _ _ _ _ _ _=>Vs Zz (pj ZF (pv 0) Z1) (ZM (G4 Z) Z Tm MZ (Z9 (pv 0) Z7)) (YA _))
     (fun _ _ _ _ _ _=>pv 0)))),?_⟩
  refine⟨_,Z,p,_,Z,hp,(n:Int),by rw[Zs,rr.len],by omega,by omega,fun d hd=>?_⟩;rw[yh];show ∃ W:Nat->Nat->St->Hp->Prop,(∃ m,W 0 m [none,some (.ref p)] (upd H d (.lst [])))/\_;refine Ut (J:=Itr 0 n) (Q:=fun d H'=>ZO 1 (.ref d) [some (.ref p),none] H' _) n (fun i xs σ H3=>∃ o as,σ=[o,some (.ref p)]/\Z8 H H3/\xs=rv as/\(∀ a∈as,H a=none/\a≠d)/\Za H3 as ((yI i).map (cyc n r))) ⟨_,[],rfl,ZY (Z8.refl _) hd,rfl,by simp,trivial⟩ ?_ ?_;rintro i xs σ H3 hi ⟨o,as,rfl,s3,rfl,fr,hL⟩ pE;refine⟨hi,fun x H4 ⟨e1,e2⟩=>?_⟩;subst e1 e2;rw[show (0:Int)+(i:Int)=(i:Int) from by omega];refine⟨_,Z,_,Z,p,n,r,i,Z,hp.same s3,rr,hi,hn,fun H5 l M s5 f5 hl hM=>?_⟩;have eM:=hM.eq rr hi;subst eM;have hlen:=hL.len;rw[yK,wM]at hlen;refine U5 hi (s5 _ _ pE) (by rw[T7];omega) ⟨_,as++[l],rfl,ZY (s3.trans s5) hd,LB _ _,fun a ha=>?_,?_⟩;rcases yo.mp ha with ha|ha;exact fr a ha;rw[yH.mp ha];exact⟨s3.free f5,fun e=>by rw[e,pE]at f5;cases f5⟩;have nd:∀ {a:Addr} {o:HO},H5 a=some o->a≠d->(upd H5 d (.lst (rv as++[.ref l]))) a=some o:=fun h pC=>by rw[Z5 pC];exact h
  rw[vX,ym];have cp:l≠d:=fun e=>by rw[e,pE]at f5;cases f5
  refine Za.snoc ?_ (nd hl cp);have h5:=hL.same s5;exact h5.updN (s5 _ _ pE) fun a ha=>(fr a ha).2;rintro xs σ H3 ⟨o,as,rfl,s3,rfl,fr,hL⟩ pE;refine⟨yO _,?_⟩;have hlen:=hL.len;rw[yK,wM]at hlen;refine⟨_,Z,d,Z,⟨_,SqL.of pE⟩,fun e he=>?_⟩;refine Hk (σ0:=[none]) (Q:=fun d H'=>Q (.ref d) H') n (fun i xs σ H4=>∃ o bs,σ=[o]/\Z8 H3 H4/\xs=rv bs/\(∀ a∈bs,a∈as)/\Za H4 bs (((yI i).filter (Yl n r)).map (cyc n r))) ⟨_,[],rfl,ZY (Z8.refl _) he,rfl,by simp,trivial⟩ ?_ ?_;rintro i xs σ H4 hi ⟨o,bs,rfl,s4,rfl,sub,hB⟩ he4;have ha:as[i]?=some (as[i]'(by omega)):=yR _;generalize as[i]'(by omega)=a at ha;obtain⟨M,hM,hA⟩:=hL.get ha;rw[yw,Hx hi]at hM;have eM:cyc n r i=M:=uz.inj hM;subst eM;have eZ:=SqL.of (K:=K) (s4 _ _ pE);refine⟨⟨_,_,eZ,Pw ha⟩,fun y H5 ⟨e1,hy⟩=>?_⟩;subst e1;have hy:=hy _ eZ;rw[Pw ha]at hy;cases hy;have hA4:=s4 _ _ hA;refine⟨_,Z,a,_,0,_,Z,Z,SqL.of hA4,ZU (j:=0) (Zd (UE rr hi)),_,Z,a,(cyc n r i).map fun (x:Nat)=>(x:Int),Z,by rw[<-Ay];exact SqL.of hA4,?_,fun m hm hle=>?_⟩;intro z;have:=UE rr hi;rw[List.map_eq_nil_iff.mp z]at this;simp at this;obtain⟨x,hx,rfl⟩:=yE.mp hm;refine⟨Z,_,Z,?_⟩;have bU:=hB.len;have kH:bs.length<=36:=by
   rw[bU,yK];have:=vJ (Yl n r) (yI i);rw[wM]at this;omega
  have hfs:(yI (i+1)).filter (Yl n r)=(yI i).filter (Yl n r)++[i].filter (Yl n r):=by rw[vX,vb]
  by_cases e:i=x;subst e;rw[uO rfl];refine ZP ?_;have cp:Yl n r i=true:=UC.mpr fun y hy=>by
   have:=hle _ (yE.mpr ⟨y,hy,rfl⟩);omega
  refine⟨_,Z,U5 hi he4 (by rw[T7];omega) ⟨_,bs++[a],Z,ZY s4 he,LB _ _,fun b hb=>?_,?_⟩⟩;rcases yo.mp hb with hb|hb;exact sub b hb;rw[yH.mp hb];exact yA ha;rw[hfs,List.filter_cons_of_pos cp,List.filter_nil,ym];refine Za.snoc (hB.updN he4 ?_) ?_;intro b hb z;obtain⟨j,hj⟩:=List.getElem?_of_mem (sub b hb);obtain⟨M,_,hM⟩:=hL.get hj;rw[z,he]at hM;cases hM;rw[Z5 (fun z=>by rw[z,he]at hA;cases hA)];exact hA4;rw[uJ (by intro z;have:=V.int.inj z;omega)];refine ZZ ?_;have cz:¬ Yl n r i=true:=fun z=>by
   have h1:=UC.mp z x hx;have h2:=hle _ (yE.mpr ⟨i,yA (UE rr hi),rfl⟩);omega
  refine zr hi he4 ⟨_,bs,rfl,s4,rfl,sub,?_⟩;rw[hfs,List.filter_cons_of_neg cz,List.filter_nil,wD];exact hB;rintro xs σ H4 ⟨o,bs,rfl,s4,rfl,sub,hB⟩ he4;refine⟨⟨_,SqL.of (s4 _ _ pE),by rw[T7,hlen];exact yO _⟩,?_⟩;exact k H4 e bs (s3.trans s4) (s3.free he) he4 (fun a ha=>(fr a (sub a ha)).1) hB
theorem Ge :shI n r u m=(yI n).map fun x=>nx u (itz r (-m) x):=by
 unfold shI U7 itz;by_cases h:0<=-m;simp only[uK h];simp only[uL h,Int.neg_neg]
noncomputable abbrev Uk:Stmt:=Yq Kv 1
def Nd (C:Addr):Sp:=fun vs H Q _=>∃ (a c:Addr) (n:Nat) (r u:List Nat) (m:Int),vs=[.ref a,.ref c]/\D1 C H a m/\ZV H c r u/\Row n r/\Row n u/\n<=36/\∀ (H':Hp) (l:Addr),Z8 H H'->ZV H' l r (shI n r u m)->Q (.ref l) H'
noncomputable def WW (x:Nat):Key:=ur (x:Int)
theorem Ia {kvs:List (Key×V)}{F:List Nat}(h:kvs.map (·.1)=F.map WW)(hy:y∉F):Zu kvs (WW y)=none:=by
 cases e:Zu kvs (WW y) with
 | none=>rfl
 | some v=>
  have:=Mi e;rw[h]at this;obtain⟨x,hx,ex⟩:=yE.mp this;have:x=y:=by have:=ur.inj ex;lia
  exact absurd (this ▸ hx) hy
noncomputable abbrev MB:List Str:=["self","sheet","above","row","k","square"]
theorem UN:ZT MB ["self","sheet"] (Z2 Uk):=fsc (by decide +kernel)
theorem HN:(["square","above"]:List Str).Nodup:=by decide +kernel
set_option maxHeartbeats 600000 in
theorem GD (T:Bi mg)(TD:DTx K C)(FC:Fn K mg "cycles" Vt ["row"] fc dc)(GC:Z6 P w K mg base CX0 2 fc dc ["row"] (M8 K))(F:MFn K C "done" "Shear.done" Uk ["self","sheet"] f fd):Z6 P w K mg base CX0 3 f fd ["self","sheet"] (Nd C):=by
 refine F.F.ok UN (fun vs H Q E h=>?_) (fun pK A outer s H vs Q E hr h=>?_);obtain⟨a,c,n,r,u,m,rfl,_⟩:=h;rfl;obtain⟨a,c,n,r,u,m,rfl,⟨dp,hp⟩,⟨p,q,h1,h2,h3⟩,rr,ru,hn,k⟩:=h;have hu:=RA hr;refine⟨_,Z4 (PK (i:=2) UN.nd Z (Or.inr Z) Qk)
  (Z4 (Yd uf Z (XC (pc0 FC GC hr (Z9 (pj Zp (pv 1) Z1) Z7))) (Zy (i:=3) UN.nd Z (ug Z))
   (Z3 (Yd uf Z (MH Z T.enum (Z9 (pv 3) Z7)) (R7 Z (X7 (Zy (i:=4) UN.nd Z (ug Z)) (X7 (Zy (i:=5) UN.nd Z (ug Z)) Vu)))
    (Z3 (Sv hu (pv 2) (pv 5) (pj Zp (pj Zp (pv 1) Z1) (pj ZF (pv 3) (Zr Xe (Zr T3 (pv 4) (YM (pv 0) Z)) (ZM Zj Z T.len uD (Z9 (pv 3) Z7))))) Z)))))
  (Z3 (ZR (YV (Z9 (pj Zp (pv 1) Z1) (Z9 (Y0 VM Z T.tuple Wo (Z9 (X4 (N:=MB) (names:=(Z2 Uk).names) (N':=["square","above"]) (k:=1) (pull:=[2]) (te:=(J1 (ZN 1) (ZN 0))) Z (bsc (by decide +kernel)) Z Z (UQ Z T.range (Z9 (ZM HR Z T.len uD (Z9 (pv 2) Z7)) Z7)) (fun _ _ _ _ _ _=>Zy (i:=0) HN Z (ug Z)) (fun _ _ _ _ _ _=>(Mp hu (pv 1) (pv 0) (fun _ _=>rfl)))) Z7)) Z7)))))),?_⟩
 intro d hd;have s0:Z8 H (upd H d (.dK [])):=ZY (Z8.refl H) hd;have rl:=IM rr;have j4:(Ye n r).flatten.Nodup:=rl.nodup_iff.mpr vG;have hfl:(Ye n r).flatten.length=n:=by rw[rl.length_eq,wM]
 refine⟨_,Z,c,_,0,_,Z,Z,SqT.of (s0 _ _ h1),ZU (j:=0) Z,p,n,r,Z,.inr (SqT.of (s0 _ _ h2)),rr,hn,fun H1 l as s1 fl hl fr hL=>?_⟩;have e1:H1 d=some (.dK []):=s1 _ _ Z0;have hlen:=hL.len;have ndl:l≠d:=fun e=>by rw[e,Z0]at fl;cases fl
 have jb:=s0.trans s1;have ai:∀ {b:Addr} {o:HO},H b=some o->b≠d:=fun hb e=>by rw[e,hd]at hb;cases hb
 refine⟨l,Z,⟨_,SqL.of hl⟩,Qy (K:=K) (a:=l) (xs:=rv as) (fun i σ H2=>∃ (o3 o4 o5:Option V) (kvs:List (Key×V)),σ=[some (.ref a),some (.ref c),some (.ref d),o3,o4,o5]/\(∀ b o,b≠d->H1 b=some o->H2 b=some o)/\H2 d=some (.dK kvs)/\kvs.map (·.1)=(((Ye n r).take i).flatten).map WW/\∀ y∈((Ye n r).take i).flatten,Zu kvs (WW y)=some (.int ((nx u (itz r (-m) y):Nat):Int))) ⟨none,none,none,[],Z,fun b o _ h=>h,e1,Z,fun y h=>absurd h (by simp)⟩ (fun i σ H2 _ ⟨_,_,_,_,_,s2,_⟩=>SqL.of (s2 _ _ ndl hl)) ?_ ?_⟩;rintro i x σ H2 hx ⟨o3,o4,o5,kvs,rfl,s2,h2d,hk,hv⟩;have hi:i<as.length:=by
  have:=(yP.mp hx).1;rwa [T7]at this
 have ha:as[i]?=some as[i]:=yR hi;generalize as[i]=b at ha;rw[Pw ha]at hx;cases hx;obtain⟨M,hM,hB⟩:=hL.get ha;have nbd:b≠d:=fun e=>by
  have:=fr b (yA ha);rw[e,Z0]at this;cases this
 obtain⟨x0,my,_,eM⟩:=Ib (yA hM);have hC:Cyc r x0 M:=by rw[eM];exact Xy rr my
 have j6:=hC.pos;have hft:((Ye n r).take (i+1)).flatten=((Ye n r).take i).flatten++M:=by
  rw[xT,hM,List.flatten_append];simp
 have mi:(Ye n r).flatten=((Ye n r).take (i+1)).flatten++((Ye n r).drop (i+1)).flatten:=by
  rw[<-List.flatten_append,List.take_append_drop]
 generalize hFe:((Ye n r).take i).flatten=Fl at hk hv hft;rw[hft]at mi;have cy:(Fl++M).Nodup:=by rw[mi]at j4;exact (xw.mp j4).1
 have hlen2:Fl.length+M.length<=36:=by
  have:=tX wB mi;rw[yJ,yJ]at this;lia
 refine⟨_,Z,b,Z,⟨_,SqL.of (s2 _ _ nbd hB)⟩,Pp (xs:=nv M) (fun j σ H3=>∃ (o4 o5:Option V) (kvs:List (Key×V)),σ=[some (.ref a),some (.ref c),some (.ref d),some (.ref b),o4,o5]/\(∀ b o,b≠d->H1 b=some o->H3 b=some o)/\H3 d=some (.dK kvs)/\kvs.map (·.1)=(Fl++M.take j).map WW/\∀ y∈Fl++M.take j,Zu kvs (WW y)=some (.int ((nx u (itz r (-m) y):Nat):Int))) ⟨o4,o5,kvs,Z,s2,h2d,by rw[List.take_zero,wD];exact hk,by rw[List.take_zero,wD];exact hv⟩ (fun j σ H3 _ ⟨_,_,_,_,s3,_⟩=>SqL.of (s3 _ _ nbd hB)) ?_ ?_⟩;rintro j v σ H3 T hx hT ⟨o4,o5,kvs3,rfl,s3,h3d,hk3,hv3⟩;obtain⟨y,hy,rfl⟩:=Uy hx;have hj:j<M.length:=(yP.mp hy).1;have ey:y=it r x0 j:=by
  have:=hC.is;rw[this]at hy;simp[hj]at hy;exact hy.symm
 have ndT:d≠T:=ZJ h3d hT;have jm:∀ b' o,b'≠d->H1 b'=some o->(upd H3 T (Ya T [.int (j:Int),.int (y:Int)])) b'=some o:=fun b' o lA ho=>by
  have:=s3 b' o lA ho;rw[Z5 (ZJ this hT)];exact this
 have h4d:(upd H3 T (Ya T [.int (j:Int),.int (y:Int)])) d=some (.dK kvs3):=by rw[Z5 ndT];exact h3d
 refine⟨T,_,Z,Z0,Z,_,_,Z,_,_,Z,Z,?_⟩;generalize upd H3 T (Ya T [.int (j:Int),.int (y:Int)])=H4 at jm h4d;have z0:=Int.emod_nonneg ((j:Int)-m) (show (M.length:Int)≠0 by lia);have z1:=Int.emod_lt_of_pos ((j:Int)-m) (show (0:Int)<(M.length:Int) by lia);obtain⟨jj,hjj⟩:=vW z0;have hjl:jj<M.length:=by lia
 have ny:=Sd rr my hC j (-m);rw[<-ey,show (j:Int) + -m=(j:Int)-m by lia,hjj,show ((jj:Int)).toNat=jj by lia]at ny;have hMj:M[jj]?=some (it r x0 jj):=by rw[hC.is];simp[hjl]
 have pJ:=Y4 rr my jj;have hny:y∉Fl++M.take j:=by
  have e:Fl++M=(Fl++M.take j)++(y::M.drop (j+1)):=by
   rw[uZ];congr 1;have e1:y=M[j]:=(by rw[yR hj]at hy;exact (uz.inj hy).symm);rw[e1,<-wW hj,List.take_append_drop]
  rw[e]at cy;exact fun z=>(xw.mp cy).2.2 y z y (by simp) rfl
 have hmt:M.take (j+1)=M.take j++[y]:=by rw[xT,hy];rfl
 have hvn:=Ia hk3 hny;have hkl:kvs3.length=(Fl++M.take j).length:=by simpa using tX wB hk3
 have hkl2:(Fl++M.take j).length<=36:=by rw[yJ,xy];lia
 have gB:=jm _ _ nbd hB;refine⟨_,Z,c,_,1,_,Z,Z,SqT.of (jm _ _ (ai h1) (jb _ _ h1)),ZU (j:=1) Z,?_⟩;refine⟨_,Z,_,Z,_,Z,a,C,dp,_,_,Z,jm _ _ (ai hp) (jb _ _ hp),TD.cl,TD.nM,Ma _,_,_,Z,Z,_,Z,b,_,Z,.inl (SqL.of gB),_,_,Z,Z,(by show (0:Int)<((nv M).length:Int);rw[Zs];lia),?_⟩;dsimp only;rw[Zs,hjj];refine⟨b,_,_,_,Z,Z,SqL.of gB,ZU (Zd hMj),?_⟩;refine⟨q,_,_,_,Z,Z,SqT.of (jm _ _ (ai h3) (jb _ _ h3)),ZU (Zd (ru.get pJ)),?_⟩;refine⟨_,Z,_,Z,d,_,Z,Wu.k (k:=WW y) h4d (by rw[hkl];exact YN (by lia)),?_⟩;refine⟨_,_,_,Z,fun b' o lA ho=>by rw[Z5 lA];exact jm b' o lA ho,Z0,?_,fun y' mI=>?_⟩;rw[XE _ hvn,ym,hk3,hmt];simp;rw[E4];by_cases e:y'=y;subst e;rw[uK rfl,ny];rw[uL (fun z=>e (by have:=ur.inj z;lia))];refine hv3 y' ?_;rw[hmt,<-uZ]at mI;rcases yo.mp mI with g|g;exact g;exact absurd (yH.mp g) e;rintro σ H3 ⟨o4,o5,kvs3,rfl,s3,h3d,hk3,hv3⟩;rw[Zs,xn]at hk3 hv3;exact⟨_,_,_,kvs3,Z,s3,h3d,by rw[hft];exact hk3,by rw[hft];exact hv3⟩;rintro σ H2 ⟨o3,o4,o5,kvs,rfl,s2,h2d,hk,hv⟩;rw[T7,hlen,xn]at hk hv;have sH:Z8 H H2:=fun b o hb=>s2 _ _ (ai hb) (jb _ _ hb);have hkl:kvs.length=n:=by have:=tX wB hk;simp only[yK]at this;lia
 refine⟨_,Z,c,_,0,_,Z,Z,SqT.of (sH _ _ h1),ZU (j:=0) Z,?_⟩;dsimp only [tCB,ZL,ZG];refine Gk (m:=n) (rest:=[some (.ref d)]) (fun i=>nx u (itz r (-m) i)) (fun R hR=>⟨_,rfl,d,kvs,rfl,h2d,by rw[hkl];exact hR⟩) rfl (fun i H4 R hi s4 hR=>?_) (by lia) fun H4 dl s4 hd0 js=>?_;have hm:=hv i (rl.mem_iff.mpr (yL.mpr hi));refine⟨_,Z,_,Z,d,_,Z,?_,hR⟩;rw[<-hm];exact XQ.k (k:=WW i) (s4 _ _ h2d);refine⟨dl,_,Z,.inl ⟨SqL.of js,fun t ht=>?_⟩⟩;rw[<-Ge]at *;have s5:=ZY (o:=.tup (nv (shI n r u m))) (Z8.refl H4) ht;refine⟨by show 2<=uR;decide,fun b hb=>?_⟩;have s6:=ZY (o:=.tup [.ref p,.ref t]) (Z8.refl (upd H4 t (.tup (nv (shI n r u m))))) hb;exact k _ b (sH.trans (s4.trans (s5.trans s6))) ⟨p,t,Z0,s6 _ _ (s5 _ _ (s4 _ _ (sH _ _ h2))),s6 _ _ Z0⟩
noncomputable def WB (M:List Nat):List (Key×V):=M.map fun (x:Nat)=>((ur (x:Int):Key),V.bl true)
theorem QO:∀ (M:List Nat) (y:Nat),Zu (WB M) (ur (y:Int):Key)=if y∈M then some (.bl true) else none
 | [],y=>rfl
 | x::M,y=>by
  show Zu ((((ur (x:Int):Key),V.bl true))::WB M) _=_;by_cases e:x=y;subst e;rw[Yt rfl,uK (by simp)];rw[YZ (fun z=>e (by have:=ur.inj z;lia)),QO M y];by_cases h:y∈M;rw[uK h,uK (by simp[h])];rw[uL h,uL (by simp[h];exact fun z=>e z.symm)]
def Uu (H:Hp)(gs:List Addr)(Ss:List (List Nat)):Prop:=gs.length=Ss.length/\∀ (j:Nat) (g:Addr) (S:List Nat),gs[j]?=some g->Ss[j]?=some S->H g=some (.lst (nv S))
def Ni:Sp:=fun vs H Q _=>∃ (a:Addr) (n:Nat) (r u:List Nat),vs=[.ref a]/\ZV H a r u/\Row n r/\Row n u/\n<=36/\
 ∀ (H':Hp) (l:Addr) (gs:List Addr),Z8 H H'->H l=none->(∀ g∈gs,H g=none/\g≠l)->gs.Nodup->H' l=some (.lst (gs.map V.ref))->Uu H' gs (grp n r u)->Q (.ref l) H'
theorem VI:ZT ["rows","told","seen","first","group","square"] ["rows"] (Z2 Sh):=fsc (by decide +kernel)
variable{fz:Addr}
set_option maxHeartbeats 1000000 in
theorem HW {fp:Addr}{iC bK:uC}(T:Bi mg)(F:Fn K mg "groups_of" Sh ["rows"] f fd)(FZ:Fn K mg "size" WC ["sheet"] fz iC)(GZ:Z6 P w K mg base CX0 1 fz iC ["sheet"] Vl)
  (FP:Fn K mg "paths_from" RL ["rows","first"] fp bK) (GP:Z6 P w K mg base CX0 3 fp bK ["rows","first"] LO):Z6 P w K mg base CX0 4 f fd ["rows"] Ni:=by
 refine F.F.ok VI (fun vs H Q E h=>?_) (fun pK A outer s H vs Q E hr h=>?_);obtain⟨a,n,r,u,rfl,_⟩:=h;rfl;obtain⟨a,n,r,u,rfl,o9,rr,ru,hn,k⟩:=h;have hu:=RA hr;refine⟨_,Z4 (pz VI 1 (YU Z7))
  (Z4 (pz VI 2 Qk)
  (Z4 (Yd uf Z (UQ Z T.range (Z9 (pc0 FZ GZ hr (Z9 (pv 0) Z7)) Z7)) (Zy (i:=3) VI.nd Z (ug Z))
   (Z3 (ZI (Pg (QJ hu (pv 3) (pv 2)))
    (Z4 (pz VI 4 (ZM (ID Z) Z T.sorted IP (Z9 (pc0 FP GP hr (Z9 (pv 0) (Z9 (pv 3) Z7))) Z7)))
    (Z4 (Zq (Yz ud tN tL Xn (pv 1) (Z9 (pv 4) Z7)))
    (Z3 (Yd uf Z (XC (pv 4)) (Zy (i:=5) VI.nd Z (ug Z)) (Z3 (Sv hu (pv 2) (pv 5) Wy Z)))))) ZH)))
  (Z3 (ZR (pv 1))))),?_⟩
 refine⟨xY _,fun lt pJ=>?_⟩;intro dn hdn;have s1:Z8 H (upd H lt (.lst [])):=ZY (Z8.refl H) pJ;have Hdn:H dn=none:=s1.free hdn;have s2:Z8 H (upd (upd H lt (.lst [])) dn (.dK [])):=ZY s1 Hdn;have nlt:lt≠dn:=fun e=>by rw[<-e,Z0]at hdn;cases hdn
 refine⟨_,Z,a,r,u,Z,o9.same s2,(r.length:Int),Z,by lia,by have:=rr.len;lia,?_⟩;rw[yh,rr.len];refine NC (n:=n) (fun i σ H2=>∃ (o3 o4 o5:Option V) (gs:List Addr) (M:List Nat),σ=[some (.ref a),some (.ref lt),some (.ref dn),o3,o4,o5]/\Z8 H H2/\H2 lt=some (.lst (gs.map V.ref))/\H2 dn=some (.dK (WB M))/\
  (∀ g∈gs,H g=none/\g≠lt/\g≠dn)/\gs.Nodup/\Uu H2 gs (YL n r u i)/\M.Nodup/\∀ x,x∈M↔x<n/\∃ f,f<i/\Con r u f x) ?_ ?_ ?_
 exact⟨_,_,_,[],[],Z,s2,by rw[Z5 nlt,Z0];rfl,Z0,by simp,by simp,⟨Z,by simp⟩,by simp,fun x=>by simp⟩;rintro i σ H2 hi ⟨o3,o4,o5,gs,M,rfl,e2,h2t,h2n,lB,j4,mH,hMn,hM⟩;have hMl:M.length<=n:=by
  have:=X5 M (yI n) hMn fun x hx=>yL.mpr ((hM x).mp hx).1;simpa using this
 have hgl:gs.length<=36:=by rw[mH.1];have:=HD n r u i;lia
 refine⟨_,Z,_,Z,dn,_,Z,XQ.k (k:=(ur (0+(i:Int)):Key)) h2n,_,Z,?_⟩;rw[Int.zero_add,QO];by_cases hs:i∈M;rw[uK hs];refine ZZ ?_;have cz:¬ YF n r u i:=(N3 rr ru hi).mp ((hM i).mp hs).2;refine⟨_,_,_,gs,M,Z,e2,h2t,h2n,lB,j4,by rw[ES cz];exact mH,hMn,fun x=>?_⟩;rw[hM x];constructor;rintro ⟨hx,f,hf,hc⟩;exact⟨hx,f,by lia,hc⟩;rintro ⟨hx,f,hf,hc⟩;refine⟨hx,?_⟩;rcases yb f i with c|c;exact⟨f,c,hc⟩;have:f=i:=by lia
 subst this;obtain⟨_,f0,hf0,bV⟩:=(hM f).mp hs;exact⟨f0,hf0,bV.trans hc⟩;rw[uL hs];refine ZP ?_;have hL:YF n r u i:=tR fun cz=>hs ((hM i).mpr ⟨hi,(N3 rr ru hi).mpr cz⟩);refine⟨_,Z,_,Z,a,n,r,u,i,Z,o9.same e2,rr,ru,hn,hi,fun H3 dp F' P' e3 _ h3 hP=>?_⟩;have hFl:F'.length<=n:=by
  have:=X5 F' (yI n) hP.nd fun x hx=>yL.mpr (hP.lt x hx);simpa using this
 refine⟨dp,F',Z,.inr (.inr ⟨_,h3,Qd hP.len⟩),by lia,fun g S hg pS sS=>?_⟩;have eS:=hP.clsG pS sS;subst eS;have ngt:lt≠g:=ZJ (e3 _ _ h2t) hg;have h4t:(upd H3 g (.lst (nv (clsG n r u i)))) lt=some (.lst (gs.map V.ref)):=by rw[Z5 ngt];exact e3 _ _ h2t
 refine⟨_,Z,.inl ⟨Z,_,SqL.of h4t⟩,_,Z,lt,_,_,Z,Z,h4t,by rw[yK];exact YN (by lia),?_⟩;have e23:=e2.trans e3;have Hg:H g=none:=e23.free hg;have aj:dn≠g:=ZJ (e3 _ _ h2n) hg;have hgn:g∉gs:=fun hgm=>by
  obtain⟨j,hj,ej⟩:=yc.mp hgm;have fv:j<(YL n r u i).length:=by rw[<-mH.1];exact hj
  have:=e3 _ _ (mH.2 j g _ (by rw[yR hj,ej]) (yR fv));rw[hg]at this;cases this
 have f1:Z8 H (upd (upd H3 g (.lst (nv (clsG n r u i)))) lt (.lst (gs.map V.ref++[.ref g]))):=ZY (ZY e23 Hg) pJ;have f2:(upd (upd H3 g (.lst (nv (clsG n r u i)))) lt (.lst (gs.map V.ref++[.ref g]))) g=some (.lst (nv (clsG n r u i))):=by rw[Z5 ngt.symm,Z0]
 have f3:Uu (upd (upd H3 g (.lst (nv (clsG n r u i)))) lt (.lst (gs.map V.ref++[.ref g]))) (gs++[g]) (YL n r u (i+1)):=by
  rw[QG hL];refine⟨by rw[yJ,yJ,mH.1];rfl,fun j g' S' hj hS=>?_⟩;rcases yb j gs.length with c|c;rw[yq c]at hj;rw[yq (by rw[<-mH.1];exact c)]at hS;have q:=e3 _ _ (mH.2 j g' S' hj hS);obtain⟨_,n1,_⟩:=lB g' (yA hj);rw[Z5 n1,Z5 (ZJ q hg)];exact q;have hj2:j=gs.length:=by
   have:=(yP.mp hj).1;rw[yJ]at this;simp at this;lia
  subst hj2;rw[xX (yO _)]at hj;rw[xX (by rw[mH.1];exact yO _),mH.1]at hS;simp at hj hS;subst hj hS;exact f2
 have bc:∀ x∈clsG n r u i,x∉M:=fun x hx hxm=>by
  obtain⟨_,f0,hf0,bV⟩:=(hM x).mp hxm;obtain⟨j9,hc⟩:=WK.mp hx;have h1:=bV.trans (hc.symm rr ru hi);exact hs ((hM i).mpr ⟨hi,f0,hf0,h1⟩)
 refine⟨_,Z,g,Z,⟨_,SqL.of f2⟩,Qy (K:=K) (a:=g) (xs:=nv (clsG n r u i)) (fun j σ H4=>∃ o5,σ=[some (.ref a),some (.ref lt),some (.ref dn),some (.int (i:Int)),some (.ref g),o5]/\Z8 H H4/\H4 lt=some (.lst (gs.map V.ref++[.ref g]))/\H4 g=some (.lst (nv (clsG n r u i)))/\
   Uu H4 (gs++[g]) (YL n r u (i+1))/\H4 dn=some (.dK (WB (M++(clsG n r u i).take j))))
  ⟨_,Z,f1,Z0,f2,f3,by rw[Z5 nlt.symm,Z5 aj,List.take_zero,wD];exact e3 _ _ h2n⟩ (fun j σ H4 _ ⟨_,_,_,_,e,_⟩=>SqL.of e) ?_ ?_⟩
 rintro j x σ H4 hx ⟨o5,rfl,q1,q2,q3,q5,q4⟩;obtain⟨y,hy,rfl⟩:=Uy hx;have hj:j<(clsG n r u i).length:=(yP.mp hy).1;have gG:y∉M++(clsG n r u i).take j:=fun hm=>by
  rcases yo.mp hm with hm|hm;exact bc y (yA hy) hm;obtain⟨j',fv,e'⟩:=yc.mp hm;rw[xy]at fv;rw[List.getElem_take]at e';have ey:=(yP.mp hy).2;have:=KO (Sr n r u i) (show j'<(clsG n r u i).length by lia) hj (e'.trans ey.symm);lia
 have hlen:(WB (M++(clsG n r u i).take j)).length<uR:=by
  have h1:(clsG n r u i).length<=n:=by unfold clsG;exact xQ (vJ _ _) (by simp)
  unfold WB;rw[yK,yJ,xy];exact YN (by lia)
 refine⟨_,Z,_,Z,dn,_,Z,Wu.k (k:=(ur (y:Int):Key)) q4 hlen,?_⟩;have cI:Uu (upd H4 dn (.dK (Zh (WB (M++(clsG n r u i).take j)) (ur (y:Int)) (.bl true)))) (gs++[g]) (YL n r u (i+1)):=⟨q5.1,fun j' g' S' a1 a2=>by
  have q:=q5.2 j' g' S' a1 a2
  have:g'≠dn:=by
   rcases yo.mp (yA a1) with hm|hm
   exact (lB g' hm).2.2
   rw[yH.mp hm];exact aj.symm
  rw[Z5 this];exact q⟩
 refine⟨_,Z,ZY q1 Hdn,by rw[Z5 nlt];exact q2,by rw[Z5 aj.symm];exact q3,cI,?_⟩;have ht:(clsG n r u i).take (j+1)=(clsG n r u i).take j++[y]:=by rw[xT,hy];rfl
 rw[Z0,XE _ (by rw[QO,uL gG]),ht,<-uZ];unfold WB;rw[ym (l₁:=M++(clsG n r u i).take j)];rfl;rintro σ H4 ⟨o5,rfl,q1,q2,q3,q5,q4⟩;rw[Zs,xn]at q4;refine⟨_,_,_,gs++[g],M++clsG n r u i,Z,q1,by rw[q2,ym];rfl,q4,fun g' hg'=>?_,?_,q5,?_,fun x=>?_⟩;rcases yo.mp hg' with hm|hm;exact lB g' hm;rw[yH.mp hm];exact⟨Hg,ngt.symm,aj.symm⟩;exact xw.mpr ⟨j4,by simp,fun x hx y hy=>by rw[yH.mp hy];exact fun z=>hgn (z ▸ hx)⟩;exact xw.mpr ⟨hMn,Sr _ _ _ _,fun x hx y hy z=>bc y hy (z ▸ hx)⟩;rw[yo,hM x,WK];constructor;rintro (⟨hx,f0,hf0,hc⟩|⟨hx,hc⟩);exact⟨hx,f0,by lia,hc⟩;exact⟨hx,i,by lia,hc⟩;rintro ⟨hx,f0,hf0,hc⟩;rcases yb f0 i with c|c;exact .inl ⟨hx,f0,c,hc⟩;have:f0=i:=by lia
 subst this;exact .inr ⟨hx,hc⟩;rintro σ H2 ⟨o3,o4,o5,gs,M,rfl,e2,h2t,h2n,lB,j4,mH,hMn,hM⟩;exact⟨_,Z,k H2 lt gs e2 pJ (fun g hg=>⟨(lB g hg).1,(lB g hg).2.1⟩) j4 h2t mH⟩
inductive YY (H:Hp):V->Prop
 | non:YY H .non
 | bl (b:Bool):YY H (.bl b)
 | int (i:Int):YY H (.int i)
 | str (s:Str):YY H (.str s)
 | lst {a:Addr} {xs:List V}:H a=some (.lst xs)->YY H (.ref a)
 | tup {a:Addr} {xs:List V}:H a=some (.tup xs)->YY H (.ref a)
theorem YY.same {x:V}(e:Z8 H H')(h:YY H x):YY H' x:=by
 cases h with
 | non=>exact .non
 | bl b=>exact .bl b
 | int i=>exact .int i
 | str s=>exact .str s
 | lst h=>exact .lst (e _ _ h)
 | tup h=>exact .tup (e _ _ h)
noncomputable def sqV (n:Nat):V->Bool
 | .int i=>decide (0<=i/\i<(n:Int))
 | _=>false
theorem IK (K:yS):yp K (.type "NoneType") (.type "int")=some false:=by kernel_rfl
theorem IY (K:yS):yp K (.type "bool") (.type "int")=some true:=by kernel_rfl
theorem Jj (K:yS):yp K (.type "bool") (.type "bool")=some true:=by kernel_rfl
theorem IR (K:yS):yp K (.type "str") (.type "int")=some false:=by kernel_rfl
theorem IW (K:yS):yp K (.type "list") (.type "int")=some false:=by kernel_rfl
theorem IC (K:yS):yp K (.type "tuple") (.type "int")=some false:=by kernel_rfl
noncomputable def whV:V->Bool
 | .int _=>true
 | _=>false
def Lw:Sp:=fun vs H Q _=>∃ (x:V),vs=[x]/\YY H x/\Q (.bl (whV x)) H
def Ui:Sp:=fun vs H Q _=>∃ (x:V) (n:Nat),vs=[x,.int (n:Int)]/\YY H x/\Q (.bl (sqV n x)) H
theorem DW:ZT ["thing","squares"] ["thing","squares"] (Z2 Wz):=fsc (by decide +kernel)
theorem Eg:ZT ["thing"] ["thing"] (Z2 Wl):=fsc (by decide +kernel)
theorem Fw (T:Bi mg)(F:Fn K mg "is_whole" Wl ["thing"] f fd):Z6 P w K mg base CX0 1 f fd ["thing"] Lw:=by
 refine F.F.ok Eg (fun vs H Q E h=>?_) (fun pK A outer s H vs Q E hr h=>?_);obtain⟨x,rfl,_⟩:=h;rfl
 ·obtain⟨x,rfl,hx,k⟩:=h;refine⟨_,Z3 (ZR (X0 (ZM Th (by rfl) T.isin Yu (Z9 (pv 0) (Z9 (Uo (v:=.ty "int") (by rfl) T.int SU Z) Z7)))
   (Xx (KZ (ZM Th (by rfl) T.isin Yu (Z9 (pv 0) (Z9 (Uo (v:=.ty "bool") (by rfl) T.bool NM Z) Z7))))))),?_⟩
  cases hx with
  | int i=>
   refine⟨_,Z,_,_,_,_,Z,.int i,Og K,_,Z,?_⟩;refine ZP ?_;exact⟨_,Z,_,_,_,_,Z,.int i,Om K,_,Z,k⟩
  | bl b=>
   refine⟨_,Z,_,_,_,_,Z,.bl b,IY K,_,Z,?_⟩;refine ZP ?_;exact⟨_,Z,_,_,_,_,Z,.bl b,Jj K,_,Z,k⟩
  | non=>
   refine⟨_,Z,_,_,_,_,Z,.non,IK K,_,Z,?_⟩;exact ZZ k
  | str z=>
   refine⟨_,Z,_,_,_,_,Z,.str z,IR K,_,Z,?_⟩;exact ZZ k
  | lst h=>
   refine⟨_,Z,_,_,_,_,Z,.lst h,IW K,_,Z,?_⟩;exact ZZ k
  | tup h=>
   refine⟨_,Z,_,_,_,_,Z,.tup h,IC K,_,Z,?_⟩;exact ZZ k
theorem FV (T:Bi mg)(F:Fn K mg "is_square" Wz ["thing","squares"] f fd)(FW:Fn K mg "is_whole" Wl ["thing"] fw eO):Z6 P w K mg base CX0 2 f fd ["thing","squares"] Ui:=by
 have GW:Z6 P w K mg base CX0 1 fw eO ["thing"] Lw:=Fw T FW;refine F.F.ok DW (fun vs H Q E h=>?_) (fun pK A outer s H vs Q E hr h=>?_);obtain⟨x,n,rfl,_⟩:=h;rfl
 ·obtain⟨x,n,rfl,hx,k⟩:=h;refine⟨_,Z3 (ZR (X0 (pc0 FW GW hr (Z9 (pv 0) Z7)) (Xx (VC XX V0 Z1 (pv 0) (pv 1))))),?_⟩;refine⟨_,Z,x,Z,hx,_,Z,?_⟩;cases x with
  | int i=>
   refine ZP ?_;refine⟨_,Z,_,_,Z,Z,_,Z,?_⟩;have k:Q (.bl (decide (0<=i/\i<(n:Int)))) H:=k;refine YC (fun h=>?_) (fun h=>?_);have h:0<=i:=uF h;refine⟨_,Z,_,_,Z,Z,?_⟩;have e:decide (0<=i/\i<(n:Int))=decide (i<(n:Int)):=(by simp[h]);rw[e]at k;exact k;have h:¬ 0<=i:=fun z=>h (uO z);have e:decide (0<=i/\i<(n:Int))=false:=(by simp[h]);rw[e]at k;exact k
  | non=>exact ZZ k
  | bl b=>exact ZZ k
  | str z=>exact ZZ k
  | ref a=>exact ZZ k
  | _=>exact ZZ k
def WU (K:yS)(H:Hp)(p:Addr)(xs:List V):Prop:=SqL K H p xs\/SqT K H p xs
theorem WU.same {p:Addr}(e:Z8 H H')(h:WU K H p xs):WU K H' p xs:=h.imp e.seq (Z8.tseq e)
def Xs (n:Nat)(xs:List V):Prop:=∃ r,xs=nv r/\Row n r
theorem Lb {n:Nat}:∀ {xs:List V},xs.all (sqV n)=true->∃ r:List Nat,xs=nv r/\∀ y∈r,y<n
 | [],_=>⟨[],rfl,by simp⟩
 | x::xs,h=>by
  rw[vB,yy]at h;obtain⟨r,rfl,hr⟩:=Lb h.2;cases x with
  | int i=>
   have hi:0<=i/\i<(n:Int):=uF h.1;obtain⟨m,rfl⟩:=vW hi.1;refine⟨m::r,Z,fun y hy=>?_⟩;rcases yl.mp hy with e|e;subst e;lia;exact hr y e
  | _=>exact absurd h.1 (by simp[sqV])
theorem FH (h:Xs n xs):xs.all (sqV n)=true:=by
 obtain⟨r,rfl,hr⟩:=h;rw[yn];intro x hx;obtain⟨m,hm,rfl⟩:=yE.mp hx;have:=hr.lt m hm;exact uO (by lia)
def PU (K:yS):Sp:=fun vs H Q _=>∃ (p:Addr) (xs:List V),vs=[.ref p]/\WU K H p xs/\(∀ x∈xs,YY H x)/\xs.length<=500/\∀ (H':Hp) (b:Bool),Z8 H H'->(b=true↔Xs xs.length xs)->Q (.bl b) H'
abbrev O8 (K:yS):List V->Hp->VK->Prop:=fun xs H Q=>∃ p ys,xs=[.ref p]/\(SqL K H p ys\/SqT K H p ys)/\Q (.int (ys.length:Int)) H
theorem Du {p:Addr}(h0:σ[0]?=some (some (.ref p)))(hb:bst 1 [0] σ=[none,some (.ref p)])(hp:WU K Hc p xs)(ht:∀ x∈xs,YY Hc x)(hn:xs.length<=500)
  (k:∀ (H':Hp) (d:Addr),Z8 Hc H'->H' d=some (.lst ((xs.map (sqV xs.length)).map V.bl))->Q (.ref d) H') :
  YK (fun σ H R=>Wx K (ZN 0) σ H R\/Rg K (ZN 0) σ H R) 1 [0] (ZO 0) (YR Ui [] E0 (ZL (ZN 0) (ZL (tCB (O8 K) (ZL (ZN 1) ZG)) ZG))) σ Hc Q:=by
 have core:∀ (J:It),(∀ H3,Z8 Hc H3->(∀ i (hi:i<xs.length),J.go i H3/\∀ x H2,J.yld i H3 x H2->H2=H3/\x=xs[i])/\J.stop xs.length H3)->∀ d,Hc d=none->
   ∃ W:Nat->Nat->St->Hp->Prop,(∃ m,W 0 m (bst 1 [0] σ) (upd Hc d (.lst [])))/\∀ i m σ' H',W i m σ' H'->
    (J.stop i H'/\Q (.ref d) H')\/(J.go i H'/\∀ x H2,J.yld i H' x H2->ZO 0 x σ' H2 fun σ3 H3=>YR Ui [] E0 (ZL (ZN 0) (ZL (tCB (O8 K) (ZL (ZN 1) ZG)) ZG)) σ3 H3 fun y H4=>∃ xs,H4 d=some (.lst xs)/\xs.length<uR/\∃ m',m'<m/\W (i+1) m' σ3 (upd H4 d (.lst (xs++[y])))):=by
  intro J hJ d hd;rw[hb];refine XB (Q:=fun d H'=>Q (.ref d) H') xs.length ((xs.map (sqV xs.length)).map V.bl) (by simp) (fun i σ H3=>∃ o,σ=[o,some (.ref p)]/\Z8 Hc H3) ⟨_,rfl,ZY (Z8.refl _) hd⟩ ?_ ?_;rintro i σ H3 hi ⟨o,rfl,s3⟩ pE;obtain⟨g1,g2⟩:=(hJ H3 s3).1 i hi;refine⟨g1,fun x H4 hy=>?_⟩;obtain⟨e1,e2⟩:=g2 x H4 hy;subst e1 e2;refine⟨_,Z,_,Z,p,_,Z,hp.same s3,xs[i],xs.length,Z,(ht _ (xJ hi)).same s3,?_⟩;exact Xc hi (by lia) pE (by simp[hi]) ⟨_,rfl,ZY s3 hd⟩;rintro σ H3 ⟨o,rfl,s3⟩ pE;exact⟨(hJ H3 s3).2,k H3 d s3 pE⟩
 rcases id hp with h|h;refine .inl ⟨_,h0,p,rfl,⟨_,h⟩,core _ fun H3 s3=>⟨fun i hi=>⟨⟨_,_,s3.seq h,yR hi⟩,fun x H2 ⟨e,hy⟩=>⟨e,?_⟩⟩,⟨_,s3.seq h,yO _⟩⟩⟩;have:=hy _ (s3.seq h);rw[yR hi]at this;exact (uz.inj this).symm;refine .inr ⟨_,h0,p,rfl,⟨_,h⟩,core _ fun H3 s3=>⟨fun i hi=>⟨⟨_,_,Z8.tseq s3 h,yR hi⟩,fun x H2 ⟨e,hy⟩=>⟨e,?_⟩⟩,⟨_,Z8.tseq s3 h,yO _⟩⟩⟩;have:=hy _ (Z8.tseq s3 h);rw[yR hi]at this;exact (uz.inj this).symm
theorem D7:ZT ["row"] ["row"] (Z2 Vb):=fsc (by decide +kernel)
theorem ndTG:(["thing","row"]:List Str).Nodup:=by decide +kernel
theorem F4 (T:Bi mg)(F:Fn K mg "has_each_once" Vb ["row"] f fd)(FS:Fn K mg "is_square" Wz ["thing","squares"] fs iB)(GS:Z6 P w K mg base CX0 2 fs iB ["thing","squares"] Ui) :
  Z6 P w K mg base CX0 3 f fd ["row"] (PU K):=by
 refine F.F.ok D7 (fun vs H Q E h=>?_) (fun pK A outer s H vs Q E hr h=>?_);obtain⟨p,xs,rfl,_⟩:=h;rfl
 ·obtain⟨p,xs,rfl,hp,ht,hn,k⟩:=h;refine⟨_,Z4 (ZI (Xv (Yo (ZM (Tj Z) (by rfl) T.all SS (Z9
     (X4 (N:=["row"]) (names:=(Z2 Vb).names) (N':=["thing","row"]) (k:=1) (pull:=[0]) (te:=YR Ui [] E0 (ZL (ZN 0) (ZL (tCB (O8 K) (ZL (ZN 1) ZG)) ZG))) rfl
      (bsc (by decide +kernel)) Z Z (PI.or (XC (pv 0)) (Vn (pv 0))) (fun _ _ _ _ _ _=>Zy (i:=0) ndTG Z (ug Z))
      (fun _ _ _ _ _ _=>pc0 FS GS hr (Z9 (pv 0) (Z9 (ZM Zj (by rfl) T.len uD (Z9 (pv 1) Z7)) Z7)))) Z7)))) (Z3 (ZR Wy)) ZH)
   (Z3 (ZR (YW Zz (ZM Jf (by rfl) T.len uD (Z9 (Y0 (EO Z) (by rfl) T.set F3 (Z9 (pv 0) Z7)) Z7)) (ZM Zj (by rfl) T.len uD (Z9 (pv 0) Z7)) (YA _)))),?_⟩
  dsimp only [O5,Yw,Q6,Ow,tB,tCB,ZL];refine Du rfl rfl hp ht hn fun H3 d s3 pE=>?_;refine⟨d,_,Z,SqL.of pE,_,Z,?_⟩;have fQ:((xs.map (sqV xs.length)).all id)=xs.all (sqV xs.length):=by rw[List.all_map];rfl
  rw[fQ];cases ha:xs.all (sqV xs.length) with
  | false=>
   refine ZP ?_;refine k H3 false s3 ⟨fun z=>(by cases z),fun z=>?_⟩;rw[FH z]at ha;cases ha
  | true=>
   refine ZZ ?_;obtain⟨r,er,hr'⟩:=Lb ha;have hrl:r.length=xs.length:=(by rw[er,Zs]);have j5:WU K H3 p (nv r):=(by rw[<-er];exact hp.same s3);refine⟨_,Z,p,r,Z,j5,by lia,fun d2 S hd2=>?_⟩;have s4:Z8 H (upd H3 d2 (.set S (We r))):=ZY s3 (s3.free hd2);refine⟨d2,S,_,Z,Z0,_,Z,p,_,Z,hp.same s4,Z,?_⟩;refine k _ _ s4 ?_;rw[uH];constructor;intro z;have z:=V.int.inj z;have j4:r.Nodup:=tR fun hnn=>by have:=Ha hnn;lia
   exact⟨r,er,⟨hrl,j4,hr'⟩⟩;rintro ⟨r',e',hR⟩;have:r'=r:=RQ (e'.symm.trans er);subst this;rw[GV hR.nd,hrl]
def Xr (K:yS)(H:Hp)(p:Addr)(xs:List V):Prop:=SqL K H p xs\/H p=some (.tup xs)
theorem Xr.v {p:Addr}(h:Xr K H p xs):WU K H p xs:=h.imp id SqT.of
theorem Xr.same {p:Addr}(e:Z8 H H')(h:Xr K H p xs):Xr K H' p xs:=h.imp e.seq (e _ _)
def J3 (K:yS):List V->Hp->VK->Prop:=fun xs H Q=>∃ p ys,xs=[.ref p]/\((SqL K H p ys/\∀ l,H l=none->Q (.ref l) (upd H l (.tup ys)))\/(SqT K H p ys/\Q (.ref p) H))
theorem Oc :Y7 X (.type "tuple") (J3 X.K):=VM
theorem tupG {p:Addr}(h:Xr K H p xs)(k:∀ (H':Hp) (l:Addr),Z8 H H'->H' l=some (.tup xs)->Q (.ref l) H'):J3 K [.ref p] H Q:=by
 rcases h with h|h;exact⟨p,_,Z,.inl ⟨h,fun l hl=>k _ l (ZY (Z8.refl H) hl) Z0⟩⟩;exact⟨p,_,Z,.inr ⟨SqT.of h,k H p (Z8.refl H) h⟩⟩
def OX (n:Nat)(xs ys:List V):Prop:=1<=n/\n<=36/\Xs n xs/\Xs n ys
def NY (K:yS)(CS:Addr):Sp:=fun vs H Q E=>∃ (p q:Addr) (xs ys:List V),vs=[.ref p,.ref q]/\Xr K H p xs/\Xr K H q ys/\(∀ x∈xs,YY H x)/\(∀ y∈ys,YY H y)/\xs.length<=500/\ys.length<=500/\
 ((¬ ∃ n,OX n xs ys)->∀ H':Hp,Z8 H H'->E (.ref CS) none H')/\
 (∀ (n:Nat) (r u:List Nat),xs=nv r->ys=nv u->Row n r->Row n u->1<=n->n<=36->∀ (H':Hp) (a:Addr),Z8 H H'->ZV H' a r u->Q (.ref a) H')
theorem Ih:ZT ["right","up"] ["right","up"] (Z2 Sw):=fsc (by decide +kernel)
variable{CS:Addr}
theorem IF {fe:Addr}{bH:uC}{tm:Tok}(T:Bi mg)(hC:Zk K CS)(me:mg "NoSheet"=some (.ref CS))(hm:mg "MOST_SQUARES"=some (.int 36 tm))(F:Fn K mg "checked_rows" Sw ["right","up"] f fd)(FE:Fn K mg "has_each_once" Vb ["row"] fe bH)(GE:Z6 P w K mg base CX0 3 fe bH ["row"] (PU K)) :
  Z6 P w K mg base (CX1 P w) 4 f fd ["right","up"] (NY K CS):=by
 refine F.F.ok1 Ih (fun vs H Q E h=>?_) (fun pK A outer s H vs Q E hr h=>?_);obtain⟨p,q,xs,ys,rfl,_⟩:=h;rfl
 ·obtain⟨p,q,xs,ys,rfl,hp,hq,tx,ty,lx,ly,kb,kg⟩:=h;refine⟨_,Z4 (ZI (pq Xb (ZM Zj (by rfl) T.len uD (Z9 (pv 0) Z7)) (ZM Zj (by rfl) T.len uD (Z9 (pv 1) Z7))) (Z3 (Ys Z hC Z me Yp (Z9 ZQ Z7))) ZH)
   (Z4 (ZI (Xv (Fj XX XX Z1 (ZM Zj (by rfl) T.len uD (Z9 (pv 0) Z7)) (Zv (v:=.int 36) (by rfl) hm ⟨_,Z⟩))) (Z3 (Ys Z hC Z me Yp (Z9 (Vw (.cons ZQ (.cons (Vv (Zv (v:=.int 36) (by rfl) hm ⟨_,Z⟩)) (.cons ZQ .nil)))) Z7))) ZH)
   (Z4 (ZI (Xv (PW.pt (RD (Yo (pc0 FE GE hr (Z9 (pv 0) Z7))) (P0 (Yo (pc0 FE GE hr (Z9 (pv 1) Z7))))))) (Z3 (Ys Z hC Z me Yp (Z9 ZQ Z7))) ZH)
   (Z3 (ZR (YV (Z9 (Y0 Oc (by rfl) T.tuple Wo (Z9 (pv 0) Z7)) (Z9 (Y0 Oc (by rfl) T.tuple Wo (Z9 (pv 1) Z7)) Z7))))))),?_⟩
  have one:1<=uR:=by decide
  have lu:∀ {n:Nat} {zs:List V},Xs n zs->zs.length=n:=by rintro n zs ⟨r,rfl,hr⟩;rw[Zs,hr.len]
  have far:(∀ n,1<=n->n<=36->Xs n xs->False)->Pq (ZL (T2 [tC (.str (uU "a sheet has 1 to ")),OJ (tC (.int 36)),tC (.str (uU " squares"))] tu) ZG) CS E { nx:=fun _ H'=>Q .non H',rt:=Q } [some (.ref p),some (.ref q)] H:=by
   intro iF;refine⟨_,Z,by decide +kernel,36,Z,by decide +kernel,_,Z,by decide +kernel,_,Z,by decide +kernel,one,?_⟩;exact kb (fun ⟨n,n1,n36,g1,_⟩=>iF n n1 n36 g1) H (Z8.refl H)
  refine⟨_,Z,p,_,Z,hp.v,_,Z,q,_,Z,hq.v,Z,_,Z,?_⟩;by_cases hl:xs.length=ys.length
  ·refine J7 (by rw[hl]) ?_;refine⟨_,Z,p,_,Z,hp.v,_,_,Z,Z,_,Z,?_⟩;by_cases h1:1<=xs.length
   ·have e1:decide ((1:Int)<=(xs.length:Int))=true:=uO (by lia);rw[e1];refine ZP ?_;refine⟨_,_,Z,Z,_,Z,?_⟩;by_cases h2:xs.length<=36
    ·have e2:decide ((xs.length:Int)<=36)=true:=uO (by lia);rw[e2];refine ZZ ?_;refine⟨_,Z,p,xs,Z,hp.v,tx,lx,fun H1 b1 s1 hb1=>?_⟩;refine⟨_,Z,?_⟩;cases b1 with
     | false=>
      refine ZZ ?_;refine ZP ?_;refine⟨one,kb (fun ⟨n,_,_,g1,_⟩=>?_) H1 s1⟩;have:=hb1.mpr (by rw[lu g1];exact g1);cases this
     | true=>
      refine ZP ?_;refine⟨_,Z,q,ys,Z,(hq.same s1).v,fun y hy=>(ty y hy).same s1,ly,fun H2 b2 s2 hb2=>?_⟩;refine⟨_,Z,?_⟩;have mB:=s1.trans s2;cases b2 with
      | false=>
       refine ZP ?_;refine⟨one,kb (fun ⟨n,_,_,_,g2⟩=>?_) H2 mB⟩;have:=hb2.mpr (by rw[lu g2];exact g2);cases this
      | true=>
       refine ZZ ?_;obtain⟨r,er,Rr⟩:=hb1.mp rfl;obtain⟨u,eu,Ru⟩:=hb2.mp rfl;rw[<-hl]at Ru;refine⟨_,Z,?_⟩;dsimp only [tCB,ZL,ZG];refine tupG (hp.same mB) fun H3 t1 s3 ht1=>?_;refine⟨_,Z,?_⟩
       try dsimp only [tCB,ZL,ZG]
       refine tupG (hq.same (mB.trans s3)) fun H4 t2 s4 ht2=>?_;refine⟨by show 2<=uR;decide,fun a ha=>?_⟩;have s34:=mB.trans (s3.trans s4);have e3:=s4 _ _ ht1;refine kg xs.length r u er eu Rr Ru h1 h2 _ a (ZY s34 (s34.free ha)) ⟨t1,t2,Z0,?_,?_⟩;rw[Z5 (ZJ e3 ha),e3,er];rw[Z5 (ZJ ht2 ha),ht2,eu]
    have e2:decide ((xs.length:Int)<=36)=false:=uJ (by lia);rw[e2];refine ZP ?_;exact far (fun n _ eV g1=>h2 (by rw[lu g1];exact eV))
   have e1:decide ((1:Int)<=(xs.length:Int))=false:=uJ (by lia);rw[e1];refine ZZ ?_;refine⟨_,Z,?_⟩;refine ZP ?_;exact far (fun n hn1 _ g1=>h1 (by rw[lu g1];exact hn1))
  have e0:decide (V.int (xs.length:Int)=V.int (ys.length:Int))=false:=uJ (fun z=>hl (by have:=V.int.inj z;lia));rw[e0];refine ZP ?_;exact⟨one,kb (fun ⟨n,_,_,g1,g2⟩=>hl (by rw[lu g1,lu g2])) H (Z8.refl H)⟩
noncomputable abbrev OC:Stmt:=Yq Jb 0
def OkI (v:V):Prop:=∃ i:Int,v=.int i/\i.natAbs<=1000
theorem Fo (h:m.natAbs<=1000):m.natAbs.log2<1000:=by
 by_cases z:m.natAbs=0;rw[z];decide;exact (uW z).mpr (xI h (by decide +kernel))
theorem DM (a b:Str):(a++b).length=a.length+b.length:=by
 show (a.cps++b.cps).size=_;rw[Array.size_append];rfl
theorem En (h:m.natAbs<=1000):m.natAbs.log2<1920:=by
 by_cases z:m.natAbs=0;rw[z];decide;exact (uW z).mpr (xI h (by decide +kernel))
theorem A2:ZT ["self","square"] ["self","square"] (Z2 OC):=fsc (by decide +kernel)
theorem BA {SA:Addr}(N:Tv K C f "square")(S:OH K SA)(mS:mg "SheetError"=some (.ref SA))(F:Fun K "__init__" "NotTogether.__init__" OC f fd):Z6 P w K mg base CX0 1 f fd ["self","square"] (PV C "square" OkI):=by
 refine F.ok A2 (fun vs H Q E h=>?_) (fun pK A outer s H vs Q E hr h=>?_);obtain⟨e,v,rfl,_⟩:=h;rfl;obtain⟨e,v,rfl,⟨i,rfl,hi⟩,he,k⟩:=h;refine⟨_,Z4 (Zq (DO N.ex S Z mS (Z9 (pv 0) (Z9 (Vw (.cons ZQ (.cons (Vv (pv 1)) .nil))) Z7)))) (Z3 (DQ N (pv 0) (pv 1) Z)),?_⟩;refine⟨_,Z,_,Z,?_,_,Z,i,Z,En hi,_,Z,?_,e,_,_,Z,he,?_⟩
 ·show ((tu:Str)++uU "no path leads from square 0 to square ").length<=uR;decide +kernel
 have z1:(uU (toString i)).length<=1001:=by rw[ofString_length];exact int_text_length_le (by decide) (Fo hi)
 have z2:((tu:Str)++uU "no path leads from square 0 to square ").length<=100:=by decide +kernel
 have z3:2000<=uR:=by decide
 rw[DM];omega;exact⟨_,Z,_,Z,e,Z,he,fun dx h1 h2=>k dx h1 h2⟩
def Kc (K:yS)(CN CT:Addr):Sp:=fun vs H Q E=>∃ (p q:Addr) (xs ys:List V),vs=[.ref p,.ref q]/\Xr K H p xs/\Xr K H q ys/\(∀ x∈xs,YY H x)/\(∀ y∈ys,YY H y)/\xs.length<=500/\ys.length<=500/\
 ((¬ ∃ n,OX n xs ys)->∀ H':Hp,Z8 H H'->E (.ref CN) none H')/\
 (∀ (n:Nat) (r u:List Nat),xs=nv r->ys=nv u->Row n r->Row n u->1<=n->n<=36->((grp n r u).length<=1->∀ (H':Hp) (a:Addr),Z8 H H'->ZV H' a r u->Q (.ref a) H')/\
  ∀ g f0 t0 lX,grp n r u=g::(f0::t0)::lX->∀ (H':Hp) (dx:Addr),Z8 H H'->H' dx=some (.xd [("square",.int (f0:Int))])->E (.ref CT) (some dx) H')
noncomputable abbrev zc:List Str:=["right","up","sheet","parts"]
theorem Ph:ZT zc ["right","up"] (Z2 SB):=fsc (by decide +kernel)
variable{CT:Addr}
theorem BD {fg:Addr}{dg:uC}{fI:Addr}{dI:uC}(T:Bi mg)(N:Tv K CT fI "square")(mT:mg "NotTogether"=some (.ref CT))(bI:Zn K dI ["self","square"] [])(GI:Z6 P w K mg base CX0 1 fI dI ["self","square"] (PV CT "square" OkI))(F:Fn K mg "sheet_of" SB ["right","up"] f fd)(FG:Fn K mg "groups_of" Sh ["rows"] fg dg)(GG:Z6 P w K mg base CX0 4 fg dg ["rows"] Ni)
  (FC:Fn K mg "checked_rows" Sw ["right","up"] fc dc) (GC:Z6 P w K mg base (CX1 P w) 4 fc dc ["right","up"] (NY K CN)):Z6 P w K mg base (CX1 P w) 5 f fd ["right","up"] (Kc K CN CT):=by
 refine F.F.ok1 Ph (fun vs H Q E h=>?_) (fun pK A outer s H vs Q E hr h=>?_);obtain⟨p,q,xs,ys,rfl,_⟩:=h;rfl
 ·obtain⟨p,q,xs,ys,rfl,hp,hq,hx,hy,hlx,hly,k1,k2⟩:=h;have hr2:ZK 2 _:=hr.mono (by decide);refine⟨_,(Z4 (pz Ph 2 (pcx FC GC hr (Zx fun _ _ _ z=>z) (Z9 (pv 0) (Z9 (pv 1) Z7))))
   (Z4 (pz Ph 3 (pc0 FG GG hr (Z9 (pv 2) Z7)))
   (Z4 (ZI (pq V5 (ZM Zj Z T.len uD (Z9 (pv 3) Z7)) Z1) (Z3 (Gg Z N Z mT GI bI hr2 D0 (Z9 (pj ZF (pj ZF (pv 3) Z1) Z1) Z7))) ZH)
   (Z3 (ZR (pv 2)))))),?_⟩
  refine⟨_,Z,_,Z,p,q,xs,ys,Z,hp,hq,hx,hy,hlx,hly,k1,fun n r u e1 e2 rr ru h1 eV H1 a s1 ha=>?_⟩;obtain⟨k2,k3⟩:=k2 n r u e1 e2 rr ru h1 eV;refine⟨_,Z,a,n,r,u,Z,ha,rr,ru,eV,fun H2 l gs s2 hl hg nd hL hgs=>?_⟩;refine⟨_,Z,l,_,Z,.inl (SqL.of hL),_,_,Z,Z,_,Z,?_⟩;have lg:gs.length=(grp n r u).length:=hgs.1;by_cases c:(grp n r u).length<=1;rw[uJ (by rw[yK];omega)];refine ZZ ?_;exact⟨_,Z,k2 c H2 a (s1.trans s2) (ha.same s2)⟩
  ·rw[uO (by rw[yK];omega)];refine ZP ?_;obtain⟨g,f0,t0,lX,eg⟩:∃ g f0 t0 lX,grp n r u=g::(f0::t0)::lX:=by
    match eg:grp n r u with
    | []=>rw[eg]at c;exact absurd (xY _) c
    | [g]=>rw[eg]at c;exact absurd (yO _) c
    | g::[]::lX=>
     obtain⟨f1,hf1,hL1,e1⟩:=LR.mp (show []∈grp n r u by rw[eg];simp);obtain⟨t1,e2⟩:=Ll hf1 hL1;rw[e2]at e1;cases e1
    | g::(f0::t0)::lX=>exact⟨g,f0,t0,lX,Z⟩
   have f36:f0<n:=by
    obtain⟨f1,hf1,hL1,e1⟩:=LR.mp (show (f0::t0)∈grp n r u by rw[eg];simp);exact (WK.mp (show f0∈clsG n r u f1 by rw[<-e1];simp)).1
   obtain⟨g0,g1,gr,egs⟩:∃ g0 g1 gr,gs=g0::g1::gr:=by
    match gs,lg with
    | [],z=>rw[eg]at z;simp at z
    | [_],z=>rw[eg]at z;simp at z
    | g0::g1::gr,_=>exact⟨g0,g1,gr,Z⟩
   subst egs;have hg1:=hgs.2 1 g1 (f0::t0) rfl (by rw[eg];rfl);refine⟨_,Z,l,_,1,_,Z,Z,SqL.of hL,ZU (j:=1) Z,g1,_,0,_,Z,Z,SqL.of hg1,ZU (j:=0) Z,_,Z,⟨_,Z,by omega⟩,fun dx H3 jX e3=>?_⟩;subst e3;exact k3 g f0 t0 lX eg _ dx (ZY (s1.trans s2) ((s1.trans s2).free jX)) Z0
theorem Mu :∀ x∈nv r,YY H x:=fun x hx=>by
 obtain⟨i,hi,e⟩:=yc.mp hx;obtain⟨y,_,rfl⟩:=Uy ((yR hi).trans (tX some e));exact .int _
theorem DZ (h:XZ ws=true):∃ r u,ws=[ZA r,ZA u]/\(∀ x∈r,x<36)/\(∀ x∈u,x<36)/\r.length=u.length/\1<=r.length/\r.length<=36:=by
 match ws,h with
 | [a,b],h=>
  have h:(decide (a.length=b.length)&&YT a&&YT b)=true:=h;rw[yy,yy,uH]at h;obtain⟨⟨h1,h2⟩,h3⟩:=h;unfold YT at h2 h3;rw[yy,yy,uH,uH,yn]at h2 h3;have of:∀ {w:List Nat},(∀ c∈w,decide (c∈(yI 36).map sg)=true)->∃ r:List Nat,w=ZA r/\(∀ x∈r,x<36):=fun {w} hw=>by
   obtain⟨r,e1,e2,_⟩:=MQ (w:=w) fun c hc=>by
    have:=uF (hw c hc);unfold sgn;rw[uK this];lia
   exact⟨r,e1,e2⟩
  obtain⟨r,e1,hr⟩:=of h2.2;obtain⟨u,e2,hu⟩:=of h3.2;subst e1 e2;rw[YB,YB]at h1;rw[YB]at h2;exact⟨r,u,Z,hr,hu,h1,h2.1.1,h2.1.2⟩
def U6 (CX CN CT:Addr):Sp:=fun vs H Q E=>∃ (z:List Nat),vs=[.str (txt z)]/\z.length<=900/\(XZ (spf z)=false->∀ H':Hp,Z8 H H'->E (.ref CX) none H')/\
 (∀ (r u:List Nat),spf z=[ZA r,ZA u]->(∀ x∈r,x<36)->(∀ x∈u,x<36)->r.length=u.length->1<=r.length->r.length<=36->((¬ ∃ n,OX n (nv r) (nv u))->∀ H':Hp,Z8 H H'->E (.ref CN) none H')/\
  ∀ (n:Nat),Row n r->Row n u->1<=n->n<=36->((grp n r u).length<=1->∀ (H':Hp) (a:Addr),Z8 H H'->ZV H' a r u->Q (.ref a) H')/\
   ∀ g f0 t0 lX,grp n r u=g::(f0::t0)::lX->∀ (H':Hp) (dx:Addr),Z8 H H'->H' dx=some (.xd [("square",.int (f0:Int))])->E (.ref CT) (some dx) H')
theorem KS:ZT ["text","words"] ["text"] (Z2 TJ):=fsc (by decide +kernel)
variable{CX:Addr}
theorem BM {fp fo:Addr}{bK fdo:uC}(hC:Zk K CX)(hm:mg "NoText"=some (.ref CX))(F:Fn K mg "read" TJ ["text"] f fd)(FP:Fn K mg "is_pair" Sn ["words"] fp bK)(GP:Z6 P w K mg base CX0 2 fp bK ["words"] (MG K))
  (FS:Fn K mg "squares_of" US ["word"] fs iB) (GS:Z6 P w K mg base CX0 1 fs iB ["word"] Oi) (FO:Fn K mg "sheet_of" SB ["right","up"] fo fdo) (GO:Z6 P w K mg base (CX1 P w) 5 fo fdo ["right","up"] (Kc K CN CT)) :
  Z6 P w K mg base (CX1 P w) 6 f fd ["text"] (U6 CX CN CT):=by
 refine F.F.ok1 KS (fun vs H Q E h=>?_) (fun pK A outer s H vs Q E hr h=>?_);obtain⟨z,rfl,_⟩:=h;rfl
 ·obtain⟨z,rfl,hz,k1,k2⟩:=h;refine⟨_,Z4 (pz KS 1 (Yz tw qo qm QA (pv 0) (Z9 ZQ Z7)))
   (Z4 (ZI (Xv (Yo (pc0 FP GP hr (Z9 (pv 1) Z7)))) (Z3 (Ys Z hC Z hm Yp (Z9 ZQ Z7))) ZH)
   (Z3 (ZR (pcx FO GO hr (Zx fun _ _ _ z=>z) (Z9 (pc0 FS GS hr (Z9 (pj ZF (pv 1) Z1) Z7)) (Z9 (pc0 FS GS hr (Z9 (pj ZF (pv 1) Z1) Z7)) Z7)))))),?_⟩
  refine⟨_,Z,Z,_,_,Z,Z,by decide,by rw[ZD];lia,fun l hl=>?_⟩;have ou:(rM (txt z) (uU " ")).map V.str=wv (spf z):=by
   rw[Wk,Nz,xl];rfl
  rw[ou];have s1:Z8 H (upd H l (.lst (wv (spf z)))):=ZY (Z8.refl H) hl;have hw:(upd H l (.lst (wv (spf z)))) l=some (.lst (wv (spf z))):=Z0;revert s1 hw;generalize (upd H l (.lst (wv (spf z))))=H1;intro s1 hw;obtain⟨_,sm⟩:=QN z;refine⟨_,Z,l,spf z,Z,SqL.of hw,fun y hy=>by have:=sm y hy;lia,fun H2 s2=>?_⟩;refine⟨_,Z,?_⟩;cases hp:XZ (spf z) with
  | false=>
   refine ZP ?_;exact⟨by show 1<=uR;decide,k1 hp H2 (s1.trans s2)⟩
  | true=>
   refine ZZ ?_;obtain⟨r,u,e,hr36,hu36,hru,h1,eV⟩:=DZ hp;have hw2:=s2 _ _ hw;rw[e]at hw2;have k3:=k2 r u e hr36 hu36 hru h1 eV;refine⟨_,Z,l,_,0,_,Z,Z,SqL.of hw2,ZU (j:=0) Z,r,Z,hr36,by lia,fun H3 p s3 _ hp=>?_⟩;refine⟨_,Z,l,_,1,_,Z,Z,SqL.of (s3 _ _ hw2),ZU (j:=1) Z,u,Z,hu36,by lia,fun H4 q s4 _ hq=>?_⟩;have s14:=s1.trans (s2.trans (s3.trans s4));refine⟨p,q,nv r,nv u,Z,.inl (SqL.of (s4 _ _ hp)),.inl (SqL.of hq),Mu,Mu,by rw[Zs];lia,by rw[Zs];lia,fun hn H' s'=>k3.1 hn H' (s14.trans s'),fun n r' u' e1 e2 rr ru h1' h36'=>?_⟩;have e1:=RQ e1;have e2:=RQ e2;subst e1;subst e2;obtain⟨q1,q2⟩:=k3.2 n rr ru h1' h36';exact⟨fun c H' a s' ha=>q1 c H' a (s14.trans s') ha,fun g f0 t0 lX eg H' dx s' jX=>q2 g f0 t0 lX eg H' dx (s14.trans s') jX⟩
def Yn (CX CN CT:Addr):Sp:=fun vs H Q E=>∃ (l:Addr) (w0:V) (a b:List Nat),vs=[.ref l]/\H l=some (.lst [w0,.str (txt a),.str (txt b)])/\a.length<=100/\b.length<=100/\U6 CX CN CT [.str (txt (a++[32]++b))] H Q E
noncomputable abbrev zk:List Str:=["asked"]
theorem BE:ZT zk ["asked"] (Z2 Uz):=fsc (by decide +kernel)
variable{fr:Addr}{dr:uC}
theorem Bl (FR:Fn K mg "read" TJ ["text"] fr dr)(GR:Z6 P w K mg base (CX1 P w) 6 fr dr ["text"] (U6 CX CN CT))(F:Fn K mg "sheet_in" Uz ["asked"] f fd):Z6 P w K mg base (CX1 P w) 7 f fd ["asked"] (Yn CX CN CT):=by
 refine F.F.ok1 BE (fun vs H Q E h=>?_) (fun pK A outer s H vs Q E hr h=>?_);obtain⟨l,w0,a,b,rfl,_⟩:=h;rfl;obtain⟨l,w0,a,b,rfl,hl,ha,hb,k⟩:=h;have big:1000<=uR:=by decide
 refine⟨_,Z3 (ZR (pcx FR GR hr (Zx fun _ _ _ z=>z) (Z9 (Zr X8 (Zr X8 (pj ZF (pv 0) Z1) ZQ) (pj ZF (pv 0) Z1)) Z7))),?_⟩;refine⟨_,Z,l,_,1,_,Z,Z,SqL.of hl,ZU (j:=1) Z,_,_,Z,Z,by rw[Wk,ZD,ZD];simp;omega,?_⟩;refine⟨_,Z,l,_,2,_,Z,Z,SqL.of hl,ZU (j:=2) Z,_,_,Z,Z,by rw[Wk,Yh,ZD,ZD];simp;omega,?_⟩;rw[<-Yh,<-Yh,<-Wk]at k;exact k
def Dk2 (CS CT:Addr)(H:Hp)(a:Addr)(kd:Nat)(m:Int):Prop:=(kd=0/\D1 CS H a m)\/(kd=1/\D1 CT H a m)
theorem LH {x:Str}(h:¬ x="many"):(Tz m).lookup x=none:=by unfold Tz;rw[Xp,uL h];rfl
def Tt (kd:Nat)(m:Int)(asked:List V):Prop:=(kd=0/\asked=[.str "shear",.int m])\/(kd=1/\asked=[.str "turn",.int m])
def spDi (CS CT:Addr):Sp:=fun vs H Q _=>∃ (l:Addr) (kd:Nat) (m:Int) (asked:List V),vs=[.ref l]/\H l=some (.lst asked)/\Tt kd m asked/\∀ (H':Hp) (a:Addr),Z8 H H'->Dk2 CS CT H' a kd m->Q (.ref a) H'
def Kg (CX CN CG:Addr):Sp:=fun vs H Q E=>(∃ (a l:Addr) (n kd:Nat) (m:Int) (r u:List Nat) (asked:List V),vs=[.ref a,.ref l]/\ZV H a r u/\ZW n r u/\H l=some (.lst asked)/\Tt kd m asked/\
 ∀ (H':Hp) (b:Addr),Z8 H H'->ZV H' b (dd n kd m (r,u)).1 (dd n kd m (r,u)).2->Q (.ref b) H')\/
 ∃ (a l:Addr) (xs:List V),vs=[.ref a,.ref l]/\H l=some (.lst (.str "sheet" :: xs))/\Yn CX CN CG [.ref l] H Q E
noncomputable abbrev n_di:List Str:=["asked"]
theorem zj:ZT n_di ["asked"] (Z2 Sb):=fsc (by decide +kernel)
theorem zq {fS fT:Addr}{dS dT:uC}(MS:Mk K CS fS)(mS:mg "Shear"=some (.ref CS))(bS:Zn K dS ["self","many"] [])(GS:Z6 P w K mg base CX0 1 fS dS ["self","many"] (Uj CS))(MT:Mk K CT fT)(mT:mg "Turn"=some (.ref CT))(bT:Zn K dT ["self","many"] [])(GT:Z6 P w K mg base CX0 1 fT dT ["self","many"] (Uj CT))(F:Fn K mg "deed_in" Sb ["asked"] f fd):Z6 P w K mg base CX0 3 f fd ["asked"] (spDi CS CT):=by
 refine F.F.ok zj (fun vs H Q E h=>?_) (fun pK A outer s H vs Q E hr h=>?_);obtain⟨l,kd,m,asked,rfl,_⟩:=h;rfl;obtain⟨l,kd,m,asked,rfl,hl,hc,k⟩:=h;have hr2:ZK 2 _:=hr.mono (by decide);refine⟨_,(Z4 (ZI (pq Zz (pj ZF (pv 0) Z1) ZQ) (Z3 (ZR (So MS GS hr2 Z mS bS .nil Y8 (Z9 (pj ZF (pv 0) Z1) Z7)))) ZH)
  (Z4 (ZI (pq Zz (pj ZF (pv 0) Z1) ZQ) (Z3 (ZR (So MT GT hr2 Z mT bT .nil Y8 (Z9 (pj ZF (pv 0) Z1) Z7)))) ZH)
  XO)),?_⟩
 rcases hc with ⟨rfl,rfl⟩|⟨rfl,rfl⟩;refine⟨_,Z,l,_,0,_,Z,Z,SqL.of hl,ZU (j:=0) Z,Z,_,Z,?_⟩;rw[veq];refine ZP ⟨_,rfl,l,_,1,_,rfl,rfl,SqL.of hl,ZU (j:=1) rfl,?_⟩;intro x dx nx ka ne;exact mkD1 nx ka fun H1 s1 p1=>⟨rfl,k H1 x s1 (.inl ⟨rfl,p1⟩)⟩;refine⟨_,Z,l,_,0,_,Z,Z,SqL.of hl,ZU (j:=0) Z,Z,_,Z,?_⟩;rw[vne (by decide +kernel)];refine ZZ ⟨_,rfl,l,_,0,_,rfl,rfl,SqL.of hl,ZU (j:=0) rfl,rfl,_,rfl,?_⟩;rw[veq];refine ZP ⟨_,rfl,l,_,1,_,rfl,rfl,SqL.of hl,ZU (j:=1) rfl,?_⟩;intro x dx nx ka ne;exact mkD1 nx ka fun H1 s1 p1=>⟨rfl,k H1 x s1 (.inr ⟨rfl,p1⟩)⟩
noncomputable abbrev zg:List Str:=["sheet","asked"]
theorem BX:ZT zg ["sheet","asked"] (Z2 SQ):=fsc (by decide +kernel)
variable{CG:Addr}
theorem Ct {f0 f1:Addr}{d0 d1:uC}(XS:Cls K CS)(XT:Cls K CT)(F0:MFn K CS "done" "Shear.done" Uk ["self","sheet"] f0 d0)(G0:Z6 P w K mg base CX0 3 f0 d0 ["self","sheet"] (Nd CS))(F1:MFn K CT "done" "Turn.done" Sa ["self","sheet"] f1 d1)(G1:Z6 P w K mg base CX0 3 f1 d1 ["self","sheet"] (Mr CT))(FSi:Fn K mg "sheet_in" Uz ["asked"] fs ds)(GSi:Z6 P w K mg base (CX1 P w) 7 fs ds ["asked"] (Yn CX CN CG))(FDi:Fn K mg "deed_in" Sb ["asked"] fi di)(GDi:Z6 P w K mg base CX0 3 fi di ["asked"] (spDi CS CT))(F:Fn K mg "changed" SQ ["sheet","asked"] f fd):Z6 P w K mg base (CX1 P w) 8 f fd ["sheet","asked"] (Kg CX CN CG):=by
 refine F.F.ok1 BX (fun vs H Q E h=>?_) (fun pK A outer s H vs Q E hr h=>?_);rcases h with ⟨a,l,n,kd,m,r,u,asked,rfl,_⟩|⟨a,l,xs,rfl,_⟩<;>rfl
 ·have hr7:ZK 7 _:=hr.mono (by decide);have aa:ZK 3 _:=hr.mono (by decide);refine⟨_,(Z4 (ZI (pq Zz (pj ZF (pv 1) Z1) ZQ) (Z3 (ZR (pcx FSi GSi hr7 (Zx fun _ _ _ z=>z) (Z9 (pv 1) Z7)))) ZH)
   (Z3 (ZR (PE.or2 (Uv (pc0 FDi GDi aa (Z9 (pv 1) Z7)) XS F0.m G0 aa F0.b .nil Y8 (Z9 (pv 0) Z7)) (Uv (pc0 FDi GDi aa (Z9 (pv 1) Z7)) XT F1.m G1 aa F1.b .nil Y8 (Z9 (pv 0) Z7)))))),?_⟩
  rcases h with ⟨a,l,n,kd,m,r,u,asked,rfl,ha,hS,hl,hc,k⟩|⟨a,l,xs,rfl,hl,k⟩
  rotate_left
  refine⟨_,Z,l,_,0,_,Z,Z,SqL.of hl,ZU (j:=0) Z,Z,_,Z,?_⟩;rw[veq];exact ZP ⟨_,rfl,k⟩;obtain⟨z,rest,he,hz⟩:∃ z rest,asked=.str z::rest/\z≠uU "sheet":=by
   rcases hc with ⟨_,rfl⟩|⟨_,rfl⟩;exact⟨_,_,Z,by decide +kernel⟩;exact⟨_,_,Z,by decide +kernel⟩
  refine⟨_,Z,l,_,0,.str z,Z,Z,SqL.of hl,ZU (j:=0) (by rw[he];rfl),Z,_,Z,?_⟩;rw[vne hz];refine ZZ ?_;have hk:kd=0\/kd=1:=hc.elim (fun h=>.inl h.1) fun h=>.inr h.1;rcases hk with rfl|rfl;refine .inl ⟨_,rfl,l,0,m,asked,rfl,hl,hc,fun H1 b s1 hb=>?_⟩;obtain⟨dx,h⟩:D1 CS H1 b m:=by rcases hb with ⟨_,h⟩|⟨e,_⟩;exact h;cases e
  exact⟨b,dx,_,Z,h,LH (by decide +kernel),_,Z,b,a,n,r,u,m,Z,⟨dx,h⟩,ha.same s1,hS.row,hS.col,hS.most,fun H' l s' hl=>k H' l (s1.trans s') hl⟩;refine .inr ⟨_,rfl,l,1,m,asked,rfl,hl,hc,fun H1 b s1 hb=>?_⟩;obtain⟨dx,h⟩:D1 CT H1 b m:=by rcases hb with ⟨e,_⟩|⟨_,h⟩;cases e;exact h
  exact⟨b,dx,_,Z,h,LH (by decide +kernel),_,Z,b,a,n,r,u,m,Z,⟨dx,h⟩,ha.same s1,hS.row,hS.col,hS.most,fun H' l s' hl=>k H' l (s1.trans s') hl⟩
noncomputable abbrev Q0:Stmt:=Yq OY 6
def Kk (C:Addr):Sp:=fun vs H Q _=>∃ (p:Addr) (t b:Int),vs=[.ref p]/\YI C H p t b/\0<b/\Bt 1000 b/\Q (.int (t/b)) H
theorem scPo:ZT ["self"] ["self"] (Z2 Q0):=fsc (by decide +kernel)
theorem B3 (T:PTx K mg C)(F:MFn K C "whole" "Part.whole" Q0 ["self"] f fd):Z6 P w K mg base CX0 1 f fd ["self"] (Kk C):=by
 refine F.F.ok scPo (fun vs H Q E h=>?_) (fun pK A outer s H vs Q E hr h=>?_);obtain⟨p,t,b,rfl,_⟩:=h;rfl;obtain⟨p,t,b,rfl,⟨dp,hp⟩,h1,h2,k⟩:=h;refine⟨_,Z3 (ZR (Zr Qu (YM (pv 0) Z) (YM (pv 0) Z))),?_⟩;refine⟨_,Z,p,C,dp,_,_,Z,hp,T.cl,T.nT,Qt _ _,_,Z,p,C,dp,_,_,Z,hp,T.cl,T.nB,QC _ _,_,_,Z,Z,⟨by omega,h2.mono (by decide)⟩,?_⟩;rw[<-vm t (by omega)]at k;exact k
def Jy (C:Addr):Sp:=fun vs H Q _=>∃ (p:Addr) (t b:Int),vs=[.ref p]/\YI C H p t b/\0<b/\Bt 1000 b/\Q (.bl (decide (t/b=0))) H
noncomputable abbrev Aj:List Str:=["part"]
theorem A0:ZT Aj ["part"] (Z2 S4):=fsc (by decide +kernel)
theorem Bg {fo:Addr}{do_:uC}(T:PTx K mg C)(FO:MFn K C "whole" "Part.whole" Q0 ["self"] fo do_)(GO:Z6 P w K mg base CX0 1 fo do_ ["self"] (Kk C))(F:Fn K mg "is_inside" S4 ["part"] f fd):Z6 P w K mg base CX0 2 f fd ["part"] (Jy C):=by
 refine F.F.ok A0 (fun vs H Q E h=>?_) (fun pK A outer s H vs Q E hr h=>?_);obtain⟨p,t,b,rfl,_⟩:=h;rfl;obtain⟨p,t,b,rfl,⟨dx,hp⟩,hb,hB,k⟩:=h;have oU:ZK 1 _:=hr.mono (by decide);refine⟨_,(Z3 (ZR (YW Zz (Xm (pv 0) T.cl FO.m GO oU FO.b .nil Y8) Z1 (YA _)))),?_⟩;refine⟨_,Z,p,dx,_,Z,hp,Ly _ _ (by decide +kernel) (by decide +kernel),p,t,b,Z,⟨dx,hp⟩,hb,hB,Z,?_⟩;have e:decide (V.int (t/b)=V.int 0)=decide (t/b=0):=by
  rw[sI];exact⟨fun z=>V.int.inj z,fun z=>by rw[z]⟩
 show Q (.bl (decide (V.int (t/b)=V.int 0))) H;rw[e];exact k
def JK (C CP:Addr):Sp:=fun vs H Q E=>∃ (a l:Addr) (sq:Int) (px py:Addr) (tx bx ty oV:Int) (r u:List Nat),vs=[.ref a,.ref l]/\ZV H a r u/\H l=some (.tup [.int sq,.ref px,.ref py])/\YI C H px tx bx/\YI C H py ty oV/\0<bx/\0<oV/\Bt 1000 bx/\Bt 1000 oV/\
 ((0<=sq/\sq<(r.length:Int)/\tx/bx=0/\ty/oV=0)->Q .non H)/\(¬ (0<=sq/\sq<(r.length:Int)/\tx/bx=0/\ty/oV=0)->E (.ref CP) none H)
noncomputable abbrev zY:List Str:=["sheet","place"]
theorem Bs:ZT zY ["sheet","place"] (Z2 S9):=fsc (by decide +kernel)
variable{CP:Addr}
theorem Bw {fq:Addr}{dq dz:uC}(hC:Zk K CP)(me:mg "NoPlace"=some (.ref CP))(F:Fn K mg "need_place" S9 ["sheet","place"] f fd)(FQ:Fn K mg "is_square" Wz ["thing","squares"] fq dq)(GQ:Z6 P w K mg base CX0 2 fq dq ["thing","squares"] PM)
  (FZ:Fn K mg "size" WC ["sheet"] fz dz) (GZ:Z6 P w K mg base CX0 1 fz dz ["sheet"] Vl)
  (FI:Fn K mg "is_inside" S4 ["part"] fi di) (GI:Z6 P w K mg base CX0 2 fi di ["part"] (Jy C)):Z6 P w K mg base (CX1 P w) 3 f fd ["sheet","place"] (JK C CP):=by
 refine F.F.ok1 Bs (fun vs H Q E h=>?_) (fun pK A outer s H vs Q E hr h=>?_);obtain⟨a,l,sq,px,py,tx,bx,ty,oV,r,u,rfl,_⟩:=h;rfl;obtain⟨a,l,sq,px,py,tx,bx,ty,oV,r,u,rfl,ha,hl,hx,hy,x0,y0,xB,yB,k1,k2⟩:=h;refine⟨_,(Z3 (ZI (Xv (PW.pt (RD (Yo (pc0 FQ GQ hr (Z9 (pj Zp (pv 1) Z1) (Z9 (pc0 FZ GZ hr (Z9 (pv 0) Z7)) Z7)))) (RD (Yo (pc0 FI GI hr (Z9 (pj Zp (pv 1) Z1) Z7))) (P0 (Yo (pc0 FI GI hr (Z9 (pj Zp (pv 1) Z1) Z7)))))))) (Z3 (Ys Z hC Z me Yp (Z9 ZQ Z7))) ZH)),?_⟩;refine⟨_,Z,l,_,0,_,Z,Z,SqT.of hl,ZU (j:=0) Z,_,Z,a,r,u,Z,ha,sq,(r.length:Int),Z,_,Z,?_⟩;refine YC (fun g=>?_) (fun g=>?_);have g:0<=sq/\sq<(r.length:Int):=uF g;refine⟨_,Z,l,_,1,_,Z,Z,SqT.of hl,ZU (j:=1) Z,px,tx,bx,Z,hx,x0,xB,_,Z,?_⟩;refine YC (fun g2=>?_) (fun g2=>?_);have g2:tx/bx=0:=uF g2;refine⟨_,Z,l,_,2,_,Z,Z,SqT.of hl,ZU (j:=2) Z,py,ty,oV,Z,hy,y0,yB,_,Z,?_⟩;by_cases g3:ty/oV=0;rw[uO g3];exact ZZ (k1 ⟨g.1,g.2,g2,g3⟩);rw[uJ g3];refine ZP ?_;exact⟨by show 1<=uR;decide,k2 fun z=>g3 z.2.2.2⟩;refine ZP ?_;exact⟨by show 1<=uR;decide,k2 fun z=>g2 (uO z.2.2.1)⟩;refine ZP ?_;exact⟨by show 1<=uR;decide,k2 fun z=>g (uO ⟨z.1,z.2.1⟩)⟩
def Way (p q:Int):Prop:=p.natAbs<=60/\q.natAbs<=60/\¬ (p=0/\q=0)
def O1 (CN:Addr):Sp:=fun vs H Q E=>∃ p q:Int,vs=[.int p,.int q]/\(Way p q->Q .non H)/\(¬ Way p q->∀ H':Hp,Z8 H H'->E (.ref CN) none H')
noncomputable abbrev Au:List Str:=["p","q"]
theorem B4:ZT Au ["p","q"] (Z2 UD):=fsc (by decide +kernel)
theorem Bu {tk:Tok}(mE:mg "abs"=none)(hC:Zk K CN)(me:mg "NoWay"=some (.ref CN))(pF:mg "FARTHEST"=some (.int 60 tk))(F:Fn K mg "need_way" UD ["p","q"] f fd):Z6 P w K mg base (CX1 P w) 1 f fd ["p","q"] (O1 CN):=by
 refine F.F.ok1 B4 (fun vs H Q E h=>?_) (fun pK A outer s H vs Q E hr h=>?_);obtain⟨p,q,rfl,_⟩:=h;rfl;obtain⟨p,q,rfl,k1,k2⟩:=h;refine⟨_,(Z3 (ZI (PW.pt (V6 (pq V5 (ZM SL Z mE SR (Z9 (pv 0) Z7)) (Zv (v:=.int 60) (by rfl) pF ⟨_,Z⟩)) (V6 (pq V5 (ZM SL Z mE SR (Z9 (pv 1) Z7)) (Zv (v:=.int 60) (by rfl) pF ⟨_,Z⟩)) (Ug (PW.pt (RD (pq Zz (pv 0) Z1) (P0 (pq Zz (pv 1) Z1)))))))) (Z3 (Ys Z hC Z me Yp (Z9 (Vw (.cons ZQ (.cons (Vv (Zv (v:=.int 60) (by rfl) pF ⟨_,Z⟩)) (.cons ZQ (.cons (Vv (Zv (v:=.int 60) (by rfl) pF ⟨_,Z⟩)) (.cons ZQ .nil)))))) Z7))) ZH)),?_⟩;have ab:∀ i:Int,(if i<0 then -i else i)=(i.natAbs:Int):=fun i=>by split<;>omega
 refine⟨_,Z,_,Z,_,_,Z,Z,_,Z,?_⟩;rw[ab];by_cases hp:p.natAbs<=60;rw[uJ (by omega)];refine ZZ ?_;refine⟨_,Z,_,Z,_,_,Z,Z,_,Z,?_⟩;rw[ab];by_cases hq:q.natAbs<=60;rw[uJ (by omega)];refine ZZ ?_;refine⟨_,Z,Z,_,Z,?_⟩;by_cases e:p=0;subst e;refine ZP ?_;refine⟨_,Z,Z,_,Z,?_⟩;by_cases e2:q=0;subst e2;refine ZP ?_;refine⟨_,Z,by decide,?_⟩;refine⟨60,Z,by decide,_,Z,by decide,?_⟩;refine⟨_,Z,by decide,?_⟩;refine⟨60,Z,by decide,_,Z,by decide,?_⟩;refine⟨_,Z,by decide,?_⟩;exact⟨by show 1<=uR;decide,k2 (fun ⟨_,_,z⟩=>z ⟨Z,Z⟩) _ (Z8.refl _)⟩;rw[uJ (fun z=>e2 (V.int.inj z))];refine ZZ ?_;exact k1 ⟨hp,hq,fun z=>e2 z.2⟩;rw[uJ (fun z=>e (V.int.inj z))];refine ZZ ?_;refine ZZ ?_;exact k1 ⟨hp,hq,fun z=>e z.1⟩;rw[uO (by omega)];refine ZP ?_;refine⟨_,Z,by decide,?_⟩;refine⟨60,Z,by decide,_,Z,by decide,?_⟩;refine⟨_,Z,by decide,?_⟩;refine⟨60,Z,by decide,_,Z,by decide,?_⟩;refine⟨_,Z,by decide,?_⟩;exact⟨by show 1<=uR;decide,k2 (fun ⟨_,z,_⟩=>hq z) _ (Z8.refl _)⟩;rw[uO (by omega)];refine ZP ?_;refine⟨_,Z,by decide,?_⟩;refine⟨60,Z,by decide,_,Z,by decide,?_⟩;refine⟨_,Z,by decide,?_⟩;refine⟨60,Z,by decide,_,Z,by decide,?_⟩;refine⟨_,Z,by decide,?_⟩;exact⟨by show 1<=uR;decide,k2 (fun ⟨z,_,_⟩=>hp z) _ (Z8.refl _)⟩
abbrev VZ (p q:Int):Prop:=Way p q/\vQ p q=1
def J2 (CN:Addr):Sp:=fun vs H Q E=>∃ p q:Int,vs=[.int p,.int q]/\(VZ p q->Q .non H)/\(¬ VZ p q->∀ H':Hp,Z8 H H'->E (.ref CN) none H')
noncomputable abbrev zH:List Str:=["p","q"]
theorem Br:ZT zH ["p","q"] (Z2 To):=fsc (by decide +kernel)
theorem BN {fn:Addr}(hC:Zk K CN)(me:mg "NoWay"=some (.ref CN))(F:Fn K mg "need_straight_way" To ["p","q"] f fd)(FN:Fn K mg "need_way" UD ["p","q"] fn dn)(GN:Z6 P w K mg base (CX1 P w) 1 fn dn ["p","q"] (O1 CN))
  (FC:Fn K mg "common_divisor" UU ["one","other"] fc dc) (GC:Z6 P w K mg base CX0 1 fc dc ["one","other"] OG):Z6 P w K mg base (CX1 P w) 2 f fd ["p","q"] (J2 CN):=by
 refine F.F.ok1 Br (fun vs H Q E h=>?_) (fun pK A outer s H vs Q E hr h=>?_);obtain⟨p,q,rfl,_⟩:=h;rfl;obtain⟨p,q,rfl,k1,k2⟩:=h;refine⟨_,(Z4 (Zq (pcx FN GN hr (Zx fun _ _ _ z=>z) (Z9 (pv 0) (Z9 (pv 1) Z7))))
  (Z3 (ZI (pq V5 (pc0 FC GC hr (Z9 (pv 0) (Z9 (pv 1) Z7))) Z1) (Z3 (Ys Z hC Z me Yp (Z9 ZQ Z7))) ZH))),?_⟩
 refine⟨_,Z,_,Z,p,q,Z,fun hw=>?_,fun hw H' s'=>k2 (fun z=>hw z.1) H' s'⟩;refine⟨_,Z,_,Z,p,q,Z,_,_,Z,Z,_,Z,?_⟩;by_cases hg:vQ p q=1;rw[hg];refine ZZ ?_;exact k1 ⟨hw,hg⟩;have h0:vQ p q≠0:=fun z=>hw.2.2 (Int.gcd_eq_zero_iff.mp z);rw[uO (by omega)];refine ZP ?_;exact⟨by show 1<=uR;decide,k2 (fun z=>hg z.2) _ (Z8.refl _)⟩
def Jx (C CP CY:Addr):Sp:=fun vs H Q E=>∃ (a l:Addr) (sq:Int) (px py:Addr) (tx bx ty oV:Int) (r u:List Nat) (p q S:Int),vs=[.ref a,.ref l,.int p,.int q,.int S]/\ZV H a r u/\H l=some (.tup [.int sq,.ref px,.ref py])/\YI C H px tx bx/\YI C H py ty oV/\0<bx/\0<oV/\Bt 1000 bx/\Bt 1000 oV/\
 ((0<=sq/\sq<(r.length:Int)/\tx/bx=0/\ty/oV=0)->¬ Way p q/\∀ H':Hp,Z8 H H'->E (.ref CY) none H')/\(¬ (0<=sq/\sq<(r.length:Int)/\tx/bx=0/\ty/oV=0)->∀ H':Hp,Z8 H H'->E (.ref CP) none H')
def JD (CY:Addr):Sp:=fun vs H Q E=>∃ p q:Int,vs=[.int p,.int q]/\¬ VZ p q/\∀ H':Hp,Z8 H H'->E (.ref CY) none H'
def JO (CY:Addr):Sp:=fun vs H Q E=>∃ (v:V) (p q:Int),vs=[v,.int p,.int q]/\¬ VZ p q/\∀ H':Hp,Z8 H H'->E (.ref CY) none H'
def Ws:Sp:=fun _ _ _ _=>False
variable{ps:List Str}
theorem V8 {CX:CXT}:Z6 P w K mg base CX k f fd ps Ws:=by
 refine⟨fun vs H Q E h=>uj h,fun A outer s H args us vs Q E _=>?_⟩
 intros
 exact uj (by assumption)
noncomputable abbrev zw:List Str:=["sheet","place","p","q","steps"]
theorem CF:ZT zw ["sheet","place","p","q","steps"] (Z2 TV):=fsc (by decide +kernel)
variable{dw:uC}{CY:Addr}{uv:uT}
theorem AS {fn:Addr}(F:FnD K mg "walk" TV ["sheet","place","p","q","steps"] (.int 1) f fd uv)(FN:Fn K mg "need_place" S9 ["sheet","place"] fn dn)(GN:Z6 P w K mg base (CX1 P w) 3 fn dn ["sheet","place"] (JK C CP))
  (FW:Fn K mg "need_way" UD ["p","q"] fw dw) (GW:Z6 P w K mg base (CX1 P w) 1 fw dw ["p","q"] (O1 CY)):Z6 P w K mg base (CX1 P w) 4 f fd ["sheet","place","p","q","steps"] (Jx C CP CY):=by
 obtain⟨dV,FD0⟩:=F.F;refine FD0.ok1 CF (fun vs H Q E h=>?_) (fun pK A outer s H vs Q E hr h=>?_);obtain⟨a,l,sq,px,py,tx,bx,ty,oV,r,u,p,q,S,rfl,_⟩:=h;rfl;obtain⟨a,l,sq,px,py,tx,bx,ty,oV,r,u,p,q,S,rfl,ha,hl,hx,hy,x0,y0,bX,bY,k1,k2⟩:=h;refine⟨_,(Z4 (Zq (pcx FN GN hr (Zx fun _ _ _ z=>z) (Z9 (pv 0) (Z9 (pv 1) Z7))))
  (Z4 (Zq (pcx FW GW hr (Zx fun _ _ _ z=>z) (Z9 (pv 2) (Z9 (pv 3) Z7)))) XO)),?_⟩
 refine⟨_,Z,_,Z,a,l,sq,px,py,tx,bx,ty,oV,r,u,Z,ha,hl,hx,hy,x0,y0,bX,bY,fun g=>?_,fun g=>k2 g H (Z8.refl H)⟩;obtain⟨k3,k4⟩:=k1 g;exact⟨_,Z,_,Z,p,q,Z,fun h=>absurd h k3,fun _ H' s'=>k4 H' s'⟩
theorem Cd:ZT ["p","q","weights"] ["p","q"] (Z2 SM):=fsc (by decide +kernel)
theorem BP {fn:Addr}(FN:Fn K mg "need_straight_way" To ["p","q"] fn dn)(GN:Z6 P w K mg base (CX1 P w) 2 fn dn ["p","q"] (J2 CY))(F:Fn K mg "to_level" SM ["p","q"] f fd):Z6 P w K mg base (CX1 P w) 3 f fd ["p","q"] (JD CY):=by
 refine F.F.ok1 Cd (fun vs H Q E h=>?_) (fun pK A outer s H vs Q E hr h=>?_);obtain⟨p,q,rfl,_⟩:=h;rfl;obtain⟨p,q,rfl,k1,k2⟩:=h;refine⟨_,(Z4 (Zq (pcx FN GN hr (Zx fun _ _ _ z=>z) (Z9 (pv 0) (Z9 (pv 1) Z7)))) XO),?_⟩;exact⟨_,Z,_,Z,p,q,Z,fun h=>absurd h k1,fun _ H' s'=>k2 H' s'⟩
theorem KP:ZT ["sheet","p","q","level"] ["sheet","p","q"] (Z2 Tg):=fsc (by decide +kernel)
variable{dm:uC}
theorem B5 {fl fm:Addr}{dl:uC}(FL:Fn K mg "to_level" SM ["p","q"] fl dl)(GL:Z6 P w K mg base (CX1 P w) 3 fl dl ["p","q"] (JD CY))(FM:Fn K mg "moved" T8 ["sheet","word"] fm dm)(FW:Fn K mg "word_of" LX ["table"] fw dw)(F:Fn K mg "bands_along" Tg ["sheet","p","q"] f fd):Z6 P w K mg base (CX1 P w) 4 f fd ["sheet","p","q"] (JO CY):=by
 refine F.F.ok1 KP (fun vs H Q E h=>?_) (fun pK A outer s H vs Q E hr h=>?_);obtain⟨v,p,q,rfl,_⟩:=h;rfl;obtain⟨v,p,q,rfl,k1,k2⟩:=h;have oU:ZK 1 _:=hr.mono (by decide);refine⟨_,(Z4 (pz KP 3 (Xi (k:=1) (CX:=CX0) (sp:=Ws) V8 oU Z FM.m FM.F.kp FM.b .nil Y8 (Z9 (pv 0) (Z9 (Xi (k:=1) (CX:=CX0) (sp:=Ws) V8 oU Z FW.m FW.F.kp FW.b .nil Y8 (Z9 (pcx FL GL hr (Zx fun _ _ _ z=>z) (Z9 (pv 1) (Z9 (pv 2) Z7))) Z7)) Z7)))) XO),?_⟩;exact⟨_,Z,_,Z,_,Z,p,q,Z,k1,k2⟩
noncomputable abbrev lts (v1 v2:uT):List (Key×uT):=[(uN (uU "s"),v1),(uN (uU "t"),v2)]
theorem Pc:(uU "s")=txt [115]:=by decide +kernel
theorem yV:(uU "t")=txt [116]:=by decide +kernel
noncomputable def Wt (c:Nat):Bool:=c==115||c==116
noncomputable def okW (z:List Nat):Bool:=decide (z.length<=1000)&&z.all Wt
theorem A3 (v1 v2:uT)(c:Nat):(tK (lts v1 v2) (uN (txt [c]):Key)).isSome=Wt c:=by
 have e:∀ d:Nat,((uN (txt [d]):Key)=uN (txt [c]))↔d=c:=fun d=>⟨fun z=>by have:=Wj (uN.inj z);simpa using this,fun z=>by rw[z]⟩;unfold lts Wt;rw[Pc,yV];by_cases h1:c=115;subst h1;simp[tK];by_cases h2:c=116;subst h2;have:¬ ((uN (txt [115]):Key)=uN (txt [116])):=fun z=>absurd ((e 115).mp z) (by decide);have e3:txt [115]≠txt [116]:=fun z=>absurd (Wj z) (by decide);simp[tK,e3];have e3:txt [115]≠txt [c]:=fun z=>h1 (by have:=Wj z;simpa using this.symm);have e4:txt [116]≠txt [c]:=fun z=>h2 (by have:=Wj z;simpa using this.symm);simp[tK,e3,e4,h1,h2]
theorem N4 (h:n<=100000):n<uR:=by
 have:100000<uR:=by decide
 omega
variable{ys:List V}
theorem Dm {Pv:Nat->St->Hp->Prop}{σ3:St}{y:V}{H4:Hp}(hi:i<n)(hn:n<=100000)(hd:H4 d=some (.lst (ys.take i)))(hy:ys[i]?=some y)(hp:Pv (i+1) σ3 (upd H4 d (.lst (ys.take (i+1))))) :
  OT n ys Pv d i σ3 y H4:=by
 have e:ys.take (i+1)=ys.take i++[y]:=by rw[xT,hy];rfl
 refine⟨_,hd,?_,n-(i+1),by omega,Z,hi,by rw[<-e];exact hp,by rw[Z0,e]⟩;have:(ys.take i).length<=i:=by rw[xy];exact Nat.min_le_left _ _
 exact N4 (by omega)
theorem B0 {dL:Addr}{v1 v2:uT}(h2:σ[j]?=some (some (.str (txt z))))(hb:bst 1 [] σ=[none])(hL:TDi P w K dL (lts v1 v2))(hz:z.length<=100000)
  (k:∀ (H':Hp) (d:Addr),Z8 Hc H'->H' d=some (.lst ((z.map Wt).map V.bl))->Q (.ref d) H') :
  YK (TC (ZN j)) 1 [] (ZO 0) (tOp (OB P w K) (ZN 0) (tC (.ref dL))) σ Hc Q:=by
 refine⟨_,h2,txt z,Z,fun d hd=>?_⟩;rw[hb];refine XB (Q:=fun d H'=>Q (.ref d) H') z.length ((z.map Wt).map V.bl) (by simp) (fun i σ H3=>∃ o,σ=[o]/\Z8 Hc H3) ⟨_,rfl,ZY (Z8.refl _) hd⟩ ?_ ?_;rintro i σ H3 hi ⟨o,rfl,s3⟩ pE;refine⟨by show i<(txt z).length;rw[ZD];exact hi,fun x H4 ⟨e1,c,hc,e2⟩=>?_⟩;subst e1 e2;rw[Wi]at hc;refine⟨_,Z,dL,_,(uN (txt [c]):Key),Z,Z,hL,?_⟩;rw[A3];exact Dm hi hz pE (by simp[hc]) ⟨_,rfl,ZY s3 hd⟩;rintro σ H3 ⟨o,rfl,s3⟩ pE;exact⟨by show (txt z).length=z.length;rw[ZD],k H3 d s3 pE⟩
def spNd (CW:Addr):Sp:=fun vs H Q E=>∃ z:List Nat,vs=[.str (txt z)]/\z.length<=100000/\(okW z=true->∀ H':Hp,Z8 H H'->Q .non H')/\(okW z=false->∀ H':Hp,Z8 H H'->E (.ref CW) none H')
noncomputable abbrev n_nd:List Str:=["word"]
theorem Ac:ZT n_nd ["word"] (Z2 UM):=fsc (by decide +kernel)
theorem zM:(["letter"]:List Str).Nodup:=by decide +kernel
variable{CW:Addr}
theorem Aw {dL:Addr}{tk:Tok}{v1 v2:uT}(T:Bi mg)(hC:Zk K CW)(me:mg "NoWord"=some (.ref CW))(oN:mg "LETTERS"=some (.ref dL))(hL:TDi P w K dL (lts v1 v2))(pG:mg "MOST_LETTERS"=some (.int 1000 tk))(F:Fn K mg "need_word" UM ["word"] f fd):Z6 P w K mg base (CX1 P w) 1 f fd ["word"] (spNd CW):=by
 refine F.F.ok1 Ac (fun vs H Q E h=>?_) (fun pK A outer s H vs Q E hr h=>?_);obtain⟨z,rfl,_⟩:=h;rfl
 ·obtain⟨z,rfl,hz,k1,k2⟩:=h;refine⟨_,(Z3 (ZI (PW.pt (V6 (pq V5 (ZM Wq Z T.len uD (Z9 (pv 0) Z7)) (Zv (v:=.int 1000) (by rfl) pG ⟨_,Z⟩)) (Ug (Xv (Yo (ZM (Tj Z) Z T.all SS (Z9 (X4 (N:=n_nd) (names:=(Z2 UM).names) (N':=["letter"]) (k:=1) (pull:=[]) (te:=tOp (OB P w K) (ZN 0) (tC (.ref dL))) Z (bsc (by decide +kernel)) Z Z (Vi (pv 0)) (fun _ _ _ _ _ _=>Zy (i:=0) zM Z (ug Z)) (fun _ _ _ _ _ _=>YW KF (pv 0) (Zv (v:=.ref dL) (by rfl) oN Z) (by with_unfolding_all rfl))) Z7))))))) (Z3 (Ys Z hC Z me Yp (Z9 (Vw (.cons ZQ (.cons (Vv (Zv (v:=.int 1000) (by rfl) pG ⟨_,Z⟩)) (.cons ZQ .nil)))) Z7))) ZH)),?_⟩;have rs:okW z=false->∀ H':Hp,Z8 H H'->Pq (ZL (T2 [tC (.str (uU "a word has at most ")),OJ (tC (.int 1000)),tC (.str (uU " letters, s and t alone"))] tu) ZG) CW E { nx:=fun _ H'=>Q .non H',rt:=Q } [some (.str (txt z))] H':=fun ho H' s'=>by
   refine⟨_,Z,by decide,?_⟩;refine⟨1000,Z,by decide,_,Z,by decide,?_⟩;refine⟨_,Z,by decide,?_⟩;exact⟨by show 1<=uR;decide,k2 ho H' s'⟩
  refine⟨_,Z,txt z,Z,by rw[ZD];exact wK (N4 hz),_,_,Z,Z,_,Z,?_⟩;rw[ZD];by_cases hl:z.length<=1000
  ·rw[uJ (by omega)];refine ZZ ?_;dsimp only [O5,Yw,Q6,Ow,tB,tCB,ZL];refine B0 rfl rfl hL hz fun H1 d s1 hd=>?_;refine⟨d,_,Z,SqL.of hd,_,Z,?_⟩;have fQ:((z.map Wt).all id)=z.all Wt:=(by rw[List.all_map];rfl);rw[fQ];cases ha:z.all Wt with
   | false=>
    refine ZP ?_;exact rs (by unfold okW;rw[ha,Bool.and_false]) H1 s1
   | true=>
    refine ZZ ?_;exact k1 (by unfold okW;rw[ha,uO hl];rfl) H1 s1
  rw[uO (by omega)];refine ZP ?_;exact rs (by unfold okW;rw[uJ hl];rfl) H (Z8.refl _)
noncomputable def mv1 (n c:Nat)(x:List Nat×List Nat):List Nat×List Nat:=if c=115 then (x.1,cmp n x.2 (back x.1)) else (back x.2,x.1)
noncomputable def mvs (n:Nat)(z:List Nat)(x:List Nat×List Nat):List Nat×List Nat:=z.foldl (fun x c=>mv1 n c x) x
theorem C7 {c:Nat}{x:List Nat×List Nat}(h:Row n x.1/\Row n x.2):Row n (mv1 n c x).1/\Row n (mv1 n c x).2:=by
 unfold mv1;split;exact⟨h.1,Mg h.2 h.1.back⟩;exact⟨h.2.back,h.1⟩
theorem LA {n:Nat}:∀ (z:List Nat) {x:List Nat×List Nat},Row n x.1/\Row n x.2->Row n (mvs n z x).1/\Row n (mvs n z x).2
 | [],_,h=>h
 | c::z,x,h=>LA z (x:=mv1 n c x) (C7 h)
theorem Gc (n:Nat)(z:List Nat)(c:Nat)(x:List Nat×List Nat):mvs n (z++[c]) x=mv1 n c (mvs n z x):=by unfold mvs;rw[wN];rfl
def spM1:Sp:=fun vs H Q _=>∃ (a:Addr) (c n:Nat) (r u:List Nat),vs=[.ref a,.str (txt [c])]/\ZV H a r u/\Row n r/\Row n u/\n<=36/\∀ (H':Hp) (b:Addr),Z8 H H'->ZV H' b (mv1 n c (r,u)).1 (mv1 n c (r,u)).2->Q (.ref b) H'
def spMd (CW:Addr):Sp:=fun vs H Q E=>∃ (a:Addr) (z:List Nat) (n:Nat) (r u:List Nat),vs=[.ref a,.str (txt z)]/\z.length<=100000/\ZV H a r u/\Row n r/\Row n u/\n<=36/\(okW z=true->∀ (H':Hp) (b:Addr),Z8 H H'->ZV H' b (mvs n z (r,u)).1 (mvs n z (r,u)).2->Q (.ref b) H')/\(okW z=false->∀ H':Hp,Z8 H H'->E (.ref CW) none H')
noncomputable abbrev n_m1:List Str:=["sheet","letter"]
theorem An:ZT n_m1 ["sheet","letter"] (Z2 S8):=fsc (by decide +kernel)
theorem yW {dt:uC}(F:Fn K mg "moved_once" S8 ["sheet","letter"] f fd)(FS:Fn K mg "sheared" UA ["sheet"] fs ds)(GS:Z6 P w K mg base CX0 2 fs ds ["sheet"] Kh)
  (FT:Fn K mg "turned" Ul ["sheet"] ft dt) (GT:Z6 P w K mg base CX0 2 ft dt ["sheet"] Pe):Z6 P w K mg base CX0 3 f fd ["sheet","letter"] spM1:=by
 refine F.F.ok An (fun vs H Q E h=>?_) (fun pK A outer s H vs Q E hr h=>?_);obtain⟨a,c,n,r,u,rfl,_⟩:=h;rfl;obtain⟨a,c,n,r,u,rfl,o9,rr,ru,hn,k⟩:=h;refine⟨_,(Z4 (ZI (pq Zz (pv 1) ZQ) (Z3 (ZR (pc0 FS GS hr (Z9 (pv 0) Z7)))) ZH)
  (Z3 (ZR (pc0 FT GT hr (Z9 (pv 0) Z7))))),?_⟩
 refine⟨_,Z,Z,_,Z,?_⟩;by_cases e:c=115;subst e;rw[uO (tX V.str Pc.symm)];refine ZP ?_;exact⟨_,Z,a,n,r,u,Z,o9,rr,ru,hn,fun H1 b s1 hb=>k H1 b s1 hb⟩;rw[uJ (fun z=>e (by have:=Wj ((V.str.inj z).trans Pc);simpa using this))];refine ZZ ?_;refine⟨_,Z,a,n,r,u,Z,o9,rr,ru,hn,fun H1 b s1 hb=>k H1 b s1 ?_⟩;unfold mv1;rw[uL e];exact hb
noncomputable abbrev n_md:List Str:=["sheet","word","told","letter"]
theorem Ry:ZT n_md ["sheet","word"] (Z2 T8):=fsc (by decide +kernel)
theorem zQ {fn fm:Addr}(F:Fn K mg "moved" T8 ["sheet","word"] f fd)(FN:Fn K mg "need_word" UM ["word"] fn dn)(GN:Z6 P w K mg base (CX1 P w) 1 fn dn ["word"] (spNd CW))
  (FM:Fn K mg "moved_once" S8 ["sheet","letter"] fm dm) (GM:Z6 P w K mg base CX0 3 fm dm ["sheet","letter"] spM1):Z6 P w K mg base (CX1 P w) 4 f fd ["sheet","word"] (spMd CW):=by
 refine F.F.ok1 Ry (fun vs H Q E h=>?_) (fun pK A outer s H vs Q E hr h=>?_);obtain⟨a,z,n,r,u,rfl,_⟩:=h;rfl;obtain⟨a,z,n,r,u,rfl,hz,o9,rr,ru,hn,k1,k2⟩:=h;refine⟨_,(Z4 (Zq (pcx FN GN hr (Zx fun _ _ _ z=>z) (Z9 (pv 1) Z7)))
  (PSs.nox (Z4 (pz Ry 2 (pv 0))
  (Z4 (Yd uf Z (Vi (pv 1)) (Zy (i:=3) Ry.nd Z (ug Z)) (Z3 (pz Ry 2 (pc0 FM GM hr (Z9 (pv 2) (Z9 (pv 3) Z7))))))
  (Z3 (ZR (pv 2))))))),?_⟩
 refine⟨_,Z,z,Z,hz,fun ho H1 s1=>?_,k2⟩;refine⟨_,Z,?_⟩;refine⟨_,Z,_,Z,L7 (fun i σ H3=>Z8 H H3/\∃ b o3,σ=[some (.ref a),some (.str (txt z)),some (.ref b),o3]/\ZV H3 b (mvs n (z.take i) (r,u)).1 (mvs n (z.take i) (r,u)).2) ⟨s1,a,_,Z,o9.same s1⟩ ?_ ?_⟩;rintro i c σ H3 hc ⟨s3,b,o3,rfl,hb⟩;rw[Wi]at hc;obtain⟨q1,q2⟩:=LA (z.take i) (x:=(r,u)) ⟨rr,ru⟩;refine⟨_,Z,_,Z,b,c,n,_,_,Z,hb,q1,q2,hn,fun H4 b2 s4 hb2=>⟨s3.trans s4,b2,_,Z,?_⟩⟩;have:z.take (i+1)=z.take i++[c]:=by rw[xT,hc];rfl
 rw[this,Gc];exact hb2;rintro σ H3 ⟨s3,b,o3,rfl,hb⟩;rw[ZD,xn]at hb;exact⟨_,Z,k1 ho H3 b s3 hb⟩
noncomputable def Q4 (n:Nat)(i:Int):Bool:=decide (0<=i/\i<(n:Int))
def KH (CN:Addr):Sp:=fun vs H Q E=>∃ (a:Addr) (r u:List Nat) (i:Int),vs=[.ref a,.int i]/\ZV H a r u/\(Q4 r.length i=true->Q .non H)/\(Q4 r.length i=false->E (.ref CN) none H)
theorem AU:ZT ["sheet","square"] ["sheet","square"] (Z2 Rm):=fsc (by decide +kernel)
theorem Dg {fq:Addr}{iC fdq:uC}(hC:Zk K CN)(hm:mg "NoSquare"=some (.ref CN))(F:Fn K mg "need_square" Rm ["sheet","square"] f fd)(FZ:Fn K mg "size" WC ["sheet"] fz iC)(GZ:Z6 P w K mg base CX0 1 fz iC ["sheet"] Vl)
  (FQ:Fn K mg "is_square" Wz ["thing","squares"] fq fdq) (GQ:Z6 P w K mg base CX0 2 fq fdq ["thing","squares"] PM):Z6 P w K mg base (CX1 P w) 3 f fd ["sheet","square"] (KH CN):=by
 refine F.F.ok1 AU (fun vs H Q E h=>?_) (fun pK A outer s H vs Q E hr h=>?_);obtain⟨a,r,u,i,rfl,_⟩:=h;rfl
 ·obtain⟨a,r,u,i,rfl,o9,k1,k2⟩:=h;refine⟨_,Z3 (ZI (Xv (Yo (pc0 FQ GQ hr (Z9 (pv 1) (Z9 (pc0 FZ GZ hr (Z9 (pv 0) Z7)) Z7)))))
   (Z3 (Ys Z hC Z hm Yp (Z9 ZQ Z7))) ZH),?_⟩
  refine⟨_,Z,_,Z,a,r,u,Z,o9,i,_,Z,?_⟩;refine⟨_,Z,?_⟩;cases hb:decide (0<=i/\i<(r.length:Int)) with
  | true=>
   refine ZZ ?_;exact k1 hb
  | false=>
   refine ZP ?_;exact⟨by show 1<=uR;decide,k2 hb⟩
def P2 (K:yS):Sp:=fun vs H Q _=>∃ (p:Addr) (n:Nat) (r:List Nat),vs=[.ref p]/\XJ K H p r/\Row n r/\n<=36/\∀ (H':Hp) (l:Addr),Z8 H H'->H' l=some (.tup (nv (back r)))->Q (.ref l) H'
theorem zl {p:Addr}(hp:XJ K H p r):∃ sq:Hp->List V->Prop,(∀ H2,Z8 H H2->sq H2 (nv r))/\∀ (H1:Hp) (s1:Z8 H H1) (σ:St) (hσ:σ[0]?=some (some (.ref p))) (R:It->Hp->Prop),R (VX sq) H1->
  K9 K (ZL (ZN 0) ZG) σ H1 R\/Kq K (ZL (ZN 0) ZG) σ H1 R:=by
 rcases hp with h|h;exact⟨fun H xs=>SqL K H p xs,fun H2 s2=>s2.seq h,fun H1 s1 σ hσ R hR=>.inl ⟨_,hσ,p,Z,⟨_,s1.seq h⟩,hR⟩⟩;exact⟨fun H xs=>SqT K H p xs,fun H2 s2=>Z8.tseq s2 h,fun H1 s1 σ hσ R hR=>.inr ⟨_,hσ,p,Z,⟨_,Z8.tseq s1 h⟩,hR⟩⟩
theorem R8:ZT ["row","back","square","target"] ["row"] (Z2 XF):=fsc (by decide +kernel)
theorem EZ (T:Bi mg)(F:Fn K mg "back_row" XF ["row"] f fd):Z6 P w K mg base CX0 1 f fd ["row"] (P2 K):=by
 refine F.F.ok R8 (fun vs H Q E h=>?_) (fun pK A outer s H vs Q E hr h=>?_);obtain⟨p,n,r,rfl,_⟩:=h;rfl;obtain⟨p,n,r,rfl,hp,rr,hn,k⟩:=h;refine⟨_,Z4 (pz R8 1 (Y0 QV Z T.list QP (Z9 (pv 0) Z7)))
  (Z4 (Yd uf Z (PI.or (MH Z T.enum (Z9 (pv 0) Z7)) (MF Z T.enum (Z9 (pv 0) Z7))) (R7 Z (X7 (Zy (i:=2) R8.nd Z (ug Z)) (X7 (Zy (i:=3) R8.nd Z (ug Z)) Vu)))
   (Z3 (LP (pv 1) (pv 3) (pv 2) Z)))
  (Z3 (ZR (Y0 VM Z T.tuple Wo (Z9 (pv 1) Z7))))),?_⟩
 refine⟨_,Z,p,_,Z,hp,fun lb ck=>?_⟩;have s1:Z8 H (upd H lb (.lst (nv r))):=ZY (Z8.refl H) ck;obtain⟨sq,hsq,hor⟩:=zl hp;refine hor _ s1 _ rfl _ ?_;refine Pp (sq:=sq) (xs:=nv r) (fun i σ H2=>∃ o2 o3 bl,σ=[some (.ref p),some (.ref lb),o2,o3]/\Z8 H H2/\H2 lb=some (.lst (nv bl))/\bl.length=n/\∀ k,k<i->bl[nx r k]?=some k)
  ⟨_,_,r,rfl,s1,Z0,rr.len,fun k hk=>absurd hk (xM _)⟩ (fun i σ H2 _ ⟨_,_,_,_,s2,_⟩=>hsq _ s2) ?_ ?_
 rintro i x σ H2 T' hx hT ⟨o2,o3,bl,rfl,s2,h2,kH,ph⟩;obtain⟨y,hy,rfl⟩:=Uy hx;have hi:i<n:=by rw[<-rr.len];exact (yP.mp hy).1
 have ey:y=nx r i:=by have:=rr.get hi;rw[hy]at this;exact uz.inj this
 have gG:y<n:=by rw[ey];exact rr.nlt hi
 have h2':(upd H2 T' (Ya T' [.int (i:Int),.int (y:Int)])) lb=some (.lst (nv bl)):=by rw[Z5 (ZJ h2 hT)];exact h2
 refine⟨T',_,Z,Z0,Z,_,_,Z,_,_,Z,Z,?_⟩;refine⟨_,Z,_,Z,_,Z,lb,_,_,y,Z,Z,h2',?_,?_⟩;unfold ixN;rw[uK (by omega),uK (by rw[Zs,kH];omega)];simp;refine⟨_,_,bl.set y i,Z,ZY (ZY s2 (s2.free hT)) ck,by rw[Z0,Ky],by rw[List.length_set];exact kH,fun k hk=>?_⟩;rcases yb k i with c|c;have pC:y≠nx r k:=fun z=>by
  rw[ey]at z;have:=rr.inj hi (by omega) z;omega
 rw[wV pC];exact ph k c;have:k=i:=by omega
 subst this;rw[<-ey,xh (by rw[kH];exact gG)];rintro σ H2 ⟨o2,o3,bl,rfl,s2,h2,kH,ph⟩;rw[Zs,rr.len]at ph;have e:=NU rr kH ph;subst e;refine⟨_,Z,lb,_,Z,.inl ⟨SqL.of h2,fun l hl=>k _ l (ZY s2 (s2.free hl)) Z0⟩⟩
noncomputable def tk (F:List Nat):List (Key×V):=F.map fun (x:Nat)=>((ur (x:Int):Key),V.bl true)
theorem D8 (F:List Nat)(x:Nat):tk (F++[x])=tk F++[(ur (x:Int),V.bl true)]:=by unfold tk;rw[ym];rfl
theorem Bh (F:List Nat):(tk F).length=F.length:=by simp[tk]
theorem PR:∀ (F:List Nat) (y:Nat),Zu (tk F) (ur (y:Int):Key)=if y∈F then some (V.bl true) else none
 | [],y=>rfl
 | x::F,y=>by
  show Zu (((ur (x:Int):Key),V.bl true)::tk F) _=_;by_cases e:x=y;subst e;rw[Yt rfl,uK (by simp)];rw[YZ (fun z=>e (by have:=ur.inj z;lia)),PR F y];simp[uc e]
def PN (CN:Addr):Sp:=fun vs H Q E=>∃ (a:Addr) (n:Nat) (r u:List Nat) (i:Int),vs=[.ref a,.int i]/\ZV H a r u/\ZW n r u/\(Q4 n i=false->E (.ref CN) none H)/\
 (∀ x:Nat,i=(x:Int)->x<n->Row n (order r u x)->∀ (H':Hp) (l:Addr),Z8 H H'->H l=none->H' l=some (.lst (nv (back (order r u x))))->Q (.ref l) H')
noncomputable abbrev nNb:List Str:=["sheet","first","found","taken","done","row","near"]
theorem VT:ZT nNb ["sheet","first"] (Z2 Te):=fsc (by decide +kernel)
theorem DX {fn:Addr}{fdn:uC}(T:Bi mg)(F:Fn K mg "numbering" Te ["sheet","first"] f fd)(FN:Fn K mg "need_square" Rm ["sheet","square"] fn fdn)(GN:Z6 P w K mg base (CX1 P w) 3 fn fdn ["sheet","square"] (KH CN))
  (FB:Fn K mg "back_row" XF ["row"] fb eJ) (GB:Z6 P w K mg base CX0 1 fb eJ ["row"] (P2 K)):Z6 P w K mg base (CX1 P w) 4 f fd ["sheet","first"] (PN CN):=by
 refine F.F.ok1 VT (fun vs H Q E h=>?_) (fun pK A outer s H vs Q E hr h=>?_);obtain⟨a,n,r,u,i,rfl,_⟩:=h;rfl
 ·obtain⟨a,n,r,u,i,rfl,o9,hS,k1,k2⟩:=h;have hu:=RA hr;refine⟨_,Z4 (Zq (pcx FN GN hr (Zx fun _ _ _ z=>z) (Z9 (pv 0) (Z9 (pv 1) Z7))))
   (PSs.nox (Z4 (pz VT 2 (YU (Z9 (pv 1) Z7)))
   (Z4 (pz VT 3 (Qf (Vz (pv 1) Wy P8) Z Z (by simp) (by decide)))
   (Z4 (pz VT 4 Z1)
   (Z4 (Vy uf (pq V0 (pv 4) (ZM Zj (by rfl) T.len uD (Z9 (pv 2) Z7)))
    (Z4 (Yd uf Z (Vn (pv 0)) (Zy (i:=5) VT.nd Z (ug Z))
     (Z4 (pz VT 6 (pj Zp (pv 5) (pj ZF (pv 2) (pv 4))))
     (Z3 (ZI (Pg (QJ hu (pv 6) (pv 3)))
      (Z4 (Sv hu (pv 3) (pv 6) Wy Z)
      (Z3 (Zq (Yz ud tN tL Xn (pv 2) (Z9 (pv 6) Z7))))) ZH))))
    (Z3 (Pk (i:=4) VT.nd Z (ug Z) Z1 PB))))
   (Z3 (ZR (Y0 QV Z T.list QP (Z9 (pc0 FB GB hr (Z9 (pv 2) Z7)) Z7))))))))),?_⟩
  have el:=hS.row.len;have hm:=hS.most;refine⟨_,Z,_,Z,a,r,u,i,Z,o9,fun hi=>?_,fun hi=>k1 (by rw[<-el];exact hi)⟩;have hi:=uF hi;rw[el]at hi;obtain⟨x,rfl⟩:=vW hi.1;have hx:x<n:=by lia
  obtain⟨p,q,h1,h2,h3⟩:=id o9;refine⟨_,Z,(by show 1<=uR;decide),fun lf gu=>?_⟩;intro dt jW;have cQ:lf≠dt:=fun e=>by rw[<-e,Z0]at jW;cases jW
  have gj:H dt=none:=by rwa [Z5 cQ.symm]at jW
  refine⟨_,Z,Z0,[((ur (x:Int):Key),V.bl true)],Z,by show 1<=15;decide,?_⟩;have edp:WG [] [((ur (x:Int):Key),V.bl true)]=tk [x]:=by
   show Zh [] (ur (x:Int):Key) (V.bl true)=_;rw[XE (kvs:=[]) _ rfl];rfl
  rw[edp];refine VA (fun σ H2=>∃ (kk:Nat) (o5 o6:Option V),σ=[some (.ref a),some (.int (x:Int)),some (.ref lf),some (.ref dt),some (.int (kk:Int)),o5,o6]/\Z8 H H2/\H2 lf=some (.lst (nv (bf r u x kk)))/\H2 dt=some (.dK (tk (bf r u x kk)))/\Met n r u x (bf r u x kk) kk) (fun σ _=>mu 4 σ) ?_ ?_ ?_;refine⟨0,_,_,Z,ZY (ZY (ZY (Z8.refl H) gu) gj) gj,by rw[Z5 cQ,Z5 cQ,Z0];rfl,Z0,Met.start hx⟩
  ·rintro σ H2 ⟨kk,o5,o6,rfl,s2,h2l,h2d,hM⟩;refine⟨_,Z,_,Z,lf,_,Z,.inl (SqL.of h2l),_,_,Z,Z,_,Z,?_⟩;rw[Zs];refine YC (fun pJ=>?_) (fun jZ=>?_)
   ·have pJ:(kk:Int)<((bf r u x kk).length:Int):=uF pJ;have hk:kk<(bf r u x kk).length:=(by lia);obtain⟨y,hy⟩:∃ y,(bf r u x kk)[kk]?=some y:=⟨_,yR hk⟩;have gG:y<n:=hM.lt _ (yA hy);have hMl:=hM.len;generalize hMe:bf r u x kk=M at *;refine⟨_,Z,a,Z,⟨_,SqT.of (s2 _ _ h1)⟩,?_⟩;refine Mn (K:=K) (a:=a) (xs:=[.ref p,.ref q]) (fun i σ H3=>∃ (o5 o6:Option V),σ=[some (.ref a),some (.int (x:Int)),some (.ref lf),some (.ref dt),some (.int (kk:Int)),o5,o6]/\Z8 H H3/\
     H3 lf=some (.lst (nv (([nx r y,nx u y].take i).foldl put M)))/\H3 dt=some (.dK (tk (([nx r y,nx u y].take i).foldl put M)))) ?_ ?_ ?_ ?_
    exact⟨_,_,Z,s2,h2l,h2d⟩;rintro i σ H3 hi ⟨_,_,_,s3,_⟩;exact SqT.of (s3 _ _ h1)
    ·rintro i v σ H3 hi ⟨o5,o6,rfl,s3,h3l,h3d⟩;obtain⟨b,row,rfl,j7,rrow,ey⟩:∃ b row,v=V.ref b/\H b=some (.tup (nv row))/\Row n row/\[nx r y,nx u y][i]?=some (nx row y):=by
      match i,hi with
      | 0,hi=>cases hi;exact⟨p,r,Z,h2,hS.row,Z⟩
      | 1,hi=>cases hi;exact⟨q,u,Z,h3,hS.col,Z⟩
      | i+2,hi=>cases hi
     have hlen:=Oo ([nx r y,nx u y].take i) M;have htk:([nx r y,nx u y].take i).length<=2:=(by rw[xy];exact Nat.min_le_right _ _);have b4:([nx r y,nx u y].take (i+1)).foldl put M=put (([nx r y,nx u y].take i).foldl put M) (nx row y):=by
      rw[xT,ey,wN];rfl
     rw[b4];have b5:(([nx r y,nx u y].take i).foldl put M)[kk]?=some y:=by
      have:∀ (l M':List Nat),M'[kk]?=some y->(l.foldl put M')[kk]?=some y:=by
       intro l
       induction l with
       | nil=>intro M' h;exact h
       | cons a l ih=>intro M' h;exact ih _ (Uh h)
      exact this _ _ hy
     generalize hM':([nx r y,nx u y].take i).foldl put M=M' at h3l h3d hlen b5;refine⟨_,Z,_,Z,_,Z,lf,_,_,_,Z,Z,SqL.of h3l,ZU (Zd b5),?_⟩;refine⟨b,_,_,_,Z,Z,SqT.of (s3 _ _ j7),ZU (Zd (rrow.get gG)),?_⟩;refine⟨_,Z,_,Z,dt,_,Z,XQ.k (k:=(ur ((nx row y:Nat):Int):Key)) h3d,_,Z,?_⟩;rw[PR];by_cases j3:nx row y∈M';rw[uK j3];refine ZZ ?_;refine⟨_,_,Z,s3,?_,?_⟩;unfold put;rw[uK j3];exact h3l;unfold put;rw[uK j3];exact h3d;rw[uL j3];refine ZP ?_;refine⟨_,Z,_,Z,dt,_,Z,Wu.k (k:=(ur ((nx row y:Nat):Int):Key)) h3d (by rw[Bh];exact YN (by lia)),?_⟩;have g1:(upd H3 dt (.dK (Zh (tk M') (ur ((nx row y:Nat):Int):Key) (V.bl true)))) lf=some (.lst (nv M')):=(by rw[Z5 cQ];exact h3l);refine⟨_,Z,.inl ⟨Z,_,SqL.of g1⟩,_,Z,lf,_,_,Z,Z,g1,?_,?_⟩;rw[Zs];exact YN (by lia);refine⟨_,_,Z,ZY (ZY s3 gj) gu,?_,?_⟩;unfold put;rw[uL j3,Z0,Qa];unfold put;rw[uL j3,Z5 cQ.symm,Z0,XE _ (by rw[PR,uL j3]),D8]
    rintro σ H3 ⟨o5,o6,rfl,s3,h3l,h3d⟩;have e:bf r u x (kk+1)=put (put M (nx r y)) (nx u y):=by
     rw[<-hMe];exact LS (by rw[hMe];exact hy)
    refine⟨_,Z,_,_,Z,Z,⟨kk+1,_,_,Z,s3,by rw[e];exact h3l,by rw[e];exact h3d,by rw[e];exact hM.step hS.row hS.col hy⟩,?_⟩;show (100-((kk:Int)+1)).toNat<(100-(kk:Int)).toNat;lia
   have jZ:¬ (kk:Int)<((bf r u x kk).length:Int):=fun z=>jZ (uO z);obtain⟨e,ro⟩:=hM.order hS (by lia);rw[e]at h2l;refine⟨_,Z,lf,n,_,Z,.inl (SqL.of h2l),ro,hm,fun H3 t s3 ht=>?_⟩;refine⟨t,_,Z,.inr (SqT.of ht),fun l hl=>k2 x Z hx ro _ l (ZY (s2.trans s3) ((s2.trans s3).free hl)) ((s2.trans s3).free hl) Z0⟩
  rintro σ H Q Q' h ⟨v,e1,v',e2,p,ys,e3,sq,i,j,e4,e5,k,e6,q⟩;exact⟨v,e1,v',e2,p,ys,e3,sq,i,j,e4,e5,k,e6,h _ _ q⟩
theorem Qz:∀ xs:List Nat,tY (nd xs)=0
 | []=>rfl
 | x::xs=>by show max 0 (tY (nd xs))=0;rw[Qz xs];rfl
theorem MI (r u:List Nat):(sd r u).depth<=64:=by
 show max (tY (nd r)+1) (max (tY (nd u)+1) 0)+1<=64;rw[Qz,Qz];decide
variable{A:uq}
theorem KJ (hr:ZK k A){d e:rK}(h:d.depth<=64):A.units+min d.depth e.depth<tO:=
 xI (Nat.add_le_add_left (xQ (Nat.min_le_left _ _) h) _) hr.units
theorem Xs.len {n:Nat}{xs:List V}(h:Xs n xs):xs.length=n:=by obtain⟨r,rfl,hr⟩:=h;rw[Zs,hr.len]
abbrev Dh (K:yS):List V->Hp->VK->Prop:=fun xs H Q=>∃ p ys,xs=[.ref p]/\((SqL K H p ys/\∀ l,H l=none->Q (.ref l) (upd H l (.tup ys)))\/(SqT K H p ys/\Q (.ref p) H))
def M5 (K:yS):Sp:=fun vs H Q _=>∃ (p q:Addr) (n:Nat) (r f:List Nat),vs=[.ref p,.ref q]/\XJ K H p r/\XJ K H q f/\Row n r/\Row n f/\n<=36/\∀ (H':Hp) (l:Addr),Z8 H H'->H' l=some (.tup (nv (ren r f)))->Q (.ref l) H'
def MK (K:yS):Sp:=fun vs H Q _=>∃ (a q:Addr) (n:Nat) (r u:List Nat) (xs:List V),vs=[.ref a,.ref q]/\ZV H a r u/\r.length=n/\WU K H q xs/\(∀ x∈xs,YY H x)/\xs.length<=500/\∀ (H':Hp) (b:Bool),Z8 H H'->(b=true↔Xs n xs)->Q (.bl b) H'
def Pn (K:yS)(CR:Addr):Sp:=fun vs H Q E=>∃ (a q:Addr) (n:Nat) (r u:List Nat) (xs:List V),vs=[.ref a,.ref q]/\ZV H a r u/\Row n r/\Row n u/\n<=36/\WU K H q xs/\(∀ x∈xs,YY H x)/\xs.length<=500/\
 (¬ Xs n xs->∀ H':Hp,Z8 H H'->E (.ref CR) none H')/\(∀ f,xs=nv f->Row n f->∀ (H':Hp) (b:Addr),Z8 H H'->ZV H' b (ren r f) (ren u f)->Q (.ref b) H')
noncomputable abbrev nRR:List Str:=["row","f","olds"]
theorem scRR:ZT nRR ["row","f"] (Z2 UV):=fsc (by decide +kernel)
theorem ndRR:(["old","f","row"]:List Str).Nodup:=by decide +kernel
theorem He (T:Bi mg)(F:Fn K mg "renumbered_row" UV ["row","f"] f fd)(FB:Fn K mg "back_row" XF ["row"] fb eJ)(GB:Z6 P w K mg base CX0 1 fb eJ ["row"] (P2 K)) :
  Z6 P w K mg base CX0 2 f fd ["row","f"] (M5 K):=by
 refine F.F.ok scRR (fun vs H Q E h=>?_) (fun pK A outer s H vs Q E hr h=>?_);obtain⟨p,q,n,r,f,rfl,_⟩:=h;rfl;obtain⟨p,q,n,r,f,rfl,hp,hq,rr,rf,hn,k⟩:=h;refine⟨_,Z4 (pz scRR 2 (pc0 FB GB hr (Z9 (pv 1) Z7)))
  (Z3 (ZR (Y0 VM Z T.tuple Wo (Z9
   (X4 (N:=nRR) (names:=(Z2 UV).names) (N':=["old","f","row"]) (k:=1) (pull:=[1,0]) (te:=tOp (rIx K) (ZN 1) (tOp (rIx K) (ZN 2) (ZN 0))) rfl
    (bsc (by decide +kernel)) Z Z (Vn (pv 2)) (fun _ _ _ _ _ _=>Zy (i:=0) ndRR Z (ug Z)) (fun _ _ _ _ _ _=>OP RY (pv 1) (pj RY (pv 2) (pv 0)) (fun _ _=>rfl))) Z7)))),?_⟩
 refine⟨_,Z,q,n,f,Z,hq,rf,hn,fun H1 l1 s1 mh=>?_⟩;refine⟨_,Z,l1,Z,⟨_,SqT.of mh⟩,fun d hd=>?_⟩;show ∃ W:Nat->Nat->St->Hp->Prop,(∃ m,W 0 m [none,some (.ref q),some (.ref p)] (upd H1 d (.lst [])))/\_;have hb:=rf.back;refine XB (Q:=fun d H'=>Dh K [.ref d] H' Q) n (nv (ren r f)) (by rw[Zs,XD,rf.len]) (fun i σ H3=>∃ o,σ=[o,some (.ref q),some (.ref p)]/\Z8 H1 H3) ⟨_,rfl,ZY (Z8.refl _) hd⟩ ?_ ?_;rintro i σ H3 hi ⟨o,rfl,s3⟩ pE;have hl3:=SqT.of (K:=K) (s3 _ _ mh);refine⟨⟨_,_,hl3,Zd (hb.get hi)⟩,fun y H4 ⟨e,hy⟩=>?_⟩;subst e;have hy:=hy _ hl3;rw[Zd (hb.get hi)]at hy;cases hy;refine⟨_,Z,_,Z,_,Z,Rp (hp.same (s1.trans s3)) rr (hb.nlt hi) ?_⟩;refine Rp (hq.same (s1.trans s3)) rf (rr.nlt (hb.nlt hi)) ?_;refine Xc hi (by omega) pE (Zd ?_) ⟨_,rfl,ZY s3 hd⟩;rw[(Ux rr rf).get hi,T5 rf hi];rintro σ H3 ⟨o,rfl,s3⟩ pE;refine⟨⟨_,SqT.of (s3 _ _ mh),by rw[Zs,hb.len];exact yO _⟩,d,_,Z,.inl ⟨SqL.of pE,fun l hl=>k _ l ?_ Z0⟩⟩;exact ZY (s1.trans s3) ((s1.trans s3).free hl)
theorem scIR:ZT ["sheet","f"] ["sheet","f"] (Z2 Tn):=fsc (by decide +kernel)
theorem Hq {fe:Addr}{iC bH:uC}(T:Bi mg)(F:Fn K mg "is_renumbering" Tn ["sheet","f"] f fd)(FZ:Fn K mg "size" WC ["sheet"] fz iC)(GZ:Z6 P w K mg base CX0 1 fz iC ["sheet"] Vl)
  (FE:Fn K mg "has_each_once" Vb ["row"] fe bH) (GE:Z6 P w K mg base CX0 3 fe bH ["row"] (PU K)):Z6 P w K mg base CX0 4 f fd ["sheet","f"] (MK K):=by
 refine F.F.ok scIR (fun vs H Q E h=>?_) (fun pK A outer s H vs Q E hr h=>?_);obtain⟨a,q,n,r,u,xs,rfl,_⟩:=h;rfl;obtain⟨a,q,n,r,u,xs,rfl,o9,lr,hq,ht,hl,k⟩:=h;refine⟨_,Z3 (ZR (X0 (YW Zz (ZM Zj Z T.len uD (Z9 (pv 1) Z7)) (pc0 FZ GZ hr (Z9 (pv 0) Z7)) (YA _))
  (Xx (pc0 FE GE hr (Z9 (pv 1) Z7))))),?_⟩
 refine⟨_,Z,q,_,Z,hq,_,Z,a,r,u,Z,o9,Z,_,Z,?_⟩;by_cases e:xs.length=n;rw[uO (by rw[lr,e])];refine ZP ?_;refine⟨_,Z,q,xs,Z,hq,ht,hl,fun H' b s1 hb=>k H' b s1 ?_⟩;rw[e]at hb;exact hb;rw[uJ (by intro z;have:=V.int.inj z;exact e (by omega))];refine ZZ ?_;exact k H false (Z8.refl _) ⟨fun z=>(by cases z),fun z=>absurd z.len e⟩
theorem Av:ZT ["sheet","f"] ["sheet","f"] (Z2 Ti):=fsc (by decide +kernel)
theorem Df {fdi fdr:uC}(hC:Zk K CR)(hm:mg "NoRenumbering"=some (.ref CR))(F:Fn K mg "renumbered" Ti ["sheet","f"] f fd)(FI:Fn K mg "is_renumbering" Tn ["sheet","f"] fi fdi)(GI:Z6 P w K mg base CX0 4 fi fdi ["sheet","f"] (MK K))
  (FR:Fn K mg "renumbered_row" UV ["row","f"] fr fdr) (GR:Z6 P w K mg base CX0 2 fr fdr ["row","f"] (M5 K)):Z6 P w K mg base (CX1 P w) 5 f fd ["sheet","f"] (Pn K CR):=by
 refine F.F.ok1 Av (fun vs H Q E h=>?_) (fun pK A outer s H vs Q E hr h=>?_);obtain⟨a,q,n,r,u,xs,rfl,_⟩:=h;rfl
 ·obtain⟨a,q,n,r,u,xs,rfl,o9,rr,ru,hn,hq,ht,hl,k1,k2⟩:=h;refine⟨_,Z4 (ZI (Xv (Yo (pc0 FI GI hr (Z9 (pv 0) (Z9 (pv 1) Z7))))) (Z3 (Ys Z hC Z hm Yp (Z9 ZQ Z7))) ZH)
   (Z3 (ZR (YV (Z9 (pc0 FR GR hr (Z9 (pj Zp (pv 0) Z1) (Z9 (pv 1) Z7)))
    (Z9 (pc0 FR GR hr (Z9 (pj Zp (pv 0) Z1) (Z9 (pv 1) Z7))) Z7))))),?_⟩
  refine⟨_,Z,_,Z,a,q,n,r,u,xs,Z,o9,rr.len,hq,ht,hl,fun H1 b s1 hb=>?_⟩;refine⟨_,Z,?_⟩;cases b with
  | false=>
   refine ZP ?_;exact⟨by show 1<=uR;decide,k1 (fun z=>by have:=hb.mpr z;cases this) H1 s1⟩
  | true=>
   refine ZZ ?_;obtain⟨g,rfl,rf⟩:=hb.mp rfl;have mw:XJ K H q g:=hq;obtain⟨p1,p2,h1,h2,h3⟩:=o9.same s1;refine⟨_,Z,a,_,0,_,Z,Z,SqT.of h1,ZU (j:=0) Z,_,Z,p1,q,n,r,g,Z,.inr (SqT.of h2),mw.same s1,rr,rf,hn,fun H2 l1 s2 e1=>?_⟩;refine⟨_,Z,a,_,1,_,Z,Z,SqT.of (s2 _ _ h1),ZU (j:=1) Z,_,Z,p2,q,n,u,g,Z,.inr (SqT.of (s2 _ _ h3)),mw.same (s1.trans s2),ru,rf,hn,fun H3 l2 s3 e2=>?_⟩;refine⟨by show 2<=uR;decide,fun b hb=>k2 g Z rf _ b (ZY (s1.trans (s2.trans s3)) ((s1.trans (s2.trans s3)).free hb)) ⟨l1,l2,Z0,?_,?_⟩⟩;have:=s3 _ _ e1;rw[Z5 (ZJ this hb)];exact this;rw[Z5 (ZJ e2 hb)];exact e2
theorem Ie {m:Nat}{ta:TA}(G:Nat->Addr->Hp->Prop)(mono:∀ i a H H',Z8 H H'->G i a H->G i a H')
  (kj:∀ i a H d (xs:List Addr) o,i<m->H d=some (.lst (xs.map V.ref))->G i a H->G i a (upd H d o)) (hj:∀ R:List V->Hp->Prop,R [.int (m:Int)] Hc->ta σ Hc R) (hb:bst 1 pull σ=none::rest)
  (gE:∀ (i:Nat) (H:Hp) (R:VK),i<m->Z8 Hc H->(∀ (H':Hp) (a:Addr),Z8 H H'->G i a H'->R (.ref a) H')->te (some (.int (i:Int))::rest) H R) (hm:m<=1000)
  (k:∀ (H':Hp) (d:Addr) (as:List Addr),Z8 Hc H'->Hc d=none->as.length=m->(∀ i,i<m->G i (as.getD i 0) H')->H' d=some (.lst (as.map V.ref))->Q (.ref d) H') :
  YK (O6 ta) 1 pull (ZO 0) te σ Hc Q:=by
 refine hj _ ⟨(m:Int),rfl,by lia,by lia,fun d hd=>?_⟩;rw[yh,hb];refine Ut (J:=Itr 0 m) (Q:=fun d H'=>Q (.ref d) H') m (fun i xs σ H9=>(∃ o,σ=o::rest)/\Z8 Hc H9/\∃ as:List Addr,xs=as.map V.ref/\as.length=i/\∀ j,j<i->G j (as.getD j 0) H9) ⟨⟨_,rfl⟩,ZY (Z8.refl _) hd,[],rfl,rfl,fun j h=>absurd h (xM _)⟩ ?_ ?_;rintro i xs σ H9 hi ⟨⟨o,rfl⟩,s9,as,rfl,la,hG⟩ hd9;refine⟨hi,fun x H4 ⟨e1,e2⟩=>?_⟩;subst e1 e2;rw[show (0:Int)+(i:Int)=(i:Int) from by lia];refine gE i _ _ hi s9 fun H5 a s5 ga=>?_;refine U5 hi (s5 _ _ hd9) (by rw[yK];lia) ⟨⟨_,rfl⟩,ZY (s9.trans s5) hd,as++[a],by rw[ym];rfl,by rw[yJ,la];rfl,fun j hj=>?_⟩;rcases yb j i with c|c;have e:(as++[a]).getD j 0=as.getD j 0:=by rw[yG,yq (by lia),yG]
 rw[e];exact kj j _ _ d as _ (by lia) (s5 _ _ hd9) (mono _ _ _ _ s5 (hG j c));have e:j=i:=by lia
 subst e;have e:(as++[a]).getD j 0=a:=by rw[yG,xX (by lia),la,Nat.sub_self];rfl
 rw[e];exact kj j _ _ d as _ hi (s5 _ _ hd9) ga;rintro xs σ H9 ⟨⟨o,rfl⟩,s9,as,rfl,la,hG⟩ hd9;exact⟨yO _,k H9 d as s9 hd la hG hd9⟩
theorem HI {p:Addr}{bs:List Addr}{tl:TE}(G:Nat->Addr->Hp->Prop)(mono:∀ i a H H',Z8 H H'->G i a H->G i a H')
  (kj:∀ i a H d (xs:List Addr) o,i<bs.length->H d=some (.lst (xs.map V.ref))->G i a H->G i a (upd H d o)) (hj:∀ R:VK,R (.ref p) Hc->tl σ Hc R) (hp:Hc p=some (.lst (bs.map V.ref))) (hb:bst 1 pull σ=none::rest)
  (gE:∀ (i:Nat) (H:Hp) (R:VK),i<bs.length->Z8 Hc H->(∀ (H':Hp) (a:Addr),Z8 H H'->G i a H'->R (.ref a) H')->te (some (.ref (bs.getD i 0))::rest) H R) (hm:bs.length<=1000)
  (k:∀ (H':Hp) (d:Addr) (as:List Addr),Z8 Hc H'->Hc d=none->as.length=bs.length->(∀ i,i<bs.length->G i (as.getD i 0) H')->H' d=some (.lst (as.map V.ref))->Q (.ref d) H') :
  YK (Wx K tl) 1 pull (ZO 0) te σ Hc Q:=by
 refine hj _ ⟨p,rfl,⟨_,SqL.of hp⟩,fun d hd=>?_⟩;rw[hb];refine Ut (J:=Itl K p) (Q:=fun d H'=>Q (.ref d) H') bs.length (fun i xs σ H9=>(∃ o,σ=o::rest)/\Z8 Hc H9/\∃ as:List Addr,xs=as.map V.ref/\as.length=i/\∀ j,j<i->G j (as.getD j 0) H9) ⟨⟨_,rfl⟩,ZY (Z8.refl _) hd,[],rfl,rfl,fun j h=>absurd h (xM _)⟩ ?_ ?_;rintro i xs σ H9 hi ⟨⟨o,rfl⟩,s9,as,rfl,la,hG⟩ hd9;have hq:=SqL.of (K:=K) (s9 _ _ hp);have hmi:(bs.map V.ref)[i]?=some (.ref (bs.getD i 0)):=by rw[yw,yR hi,yG,yR hi];rfl
 refine⟨⟨_,_,hq,hmi⟩,fun y H4 ⟨e1,hy⟩=>?_⟩;subst e1;have hy:=hy _ hq;rw[hmi]at hy;cases hy;refine gE i _ _ hi s9 fun H5 a s5 ga=>?_;refine U5 hi (s5 _ _ hd9) (by rw[yK];lia) ⟨⟨_,rfl⟩,ZY (s9.trans s5) hd,as++[a],by rw[ym];rfl,by rw[yJ,la];rfl,fun j hj=>?_⟩;rcases yb j i with c|c;have e:(as++[a]).getD j 0=as.getD j 0:=by rw[yG,yq (by lia),yG]
 rw[e];exact kj j _ _ d as _ (by lia) (s5 _ _ hd9) (mono _ _ _ _ s5 (hG j c));have e:j=i:=by lia
 subst e;have e:(as++[a]).getD j 0=a:=by rw[yG,xX (by lia),la,Nat.sub_self];rfl
 rw[e];exact kj j _ _ d as _ hi (s5 _ _ hd9) ga;rintro xs σ H9 ⟨⟨o,rfl⟩,s9,as,rfl,la,hG⟩ hd9;exact⟨⟨_,SqL.of (s9 _ _ hp),by simp⟩,k H9 d as s9 hd la hG hd9⟩
theorem Dj {xs:List Addr}{f:List Nat}(h:xs.map V.ref=nv f):f=[]:=by
 cases f with
 | nil=>rfl
 | cons y f=>cases xs with
  | nil=>cases h
  | cons x xs=>cases h
variable{o:HO}
theorem Sj (hd:H d=some (.lst xs))(ha:H a=some (.tup ys)):(upd H d o) a=some (.tup ys):=by
 rw[Z5 (fun e:a=d=>by rw[e,hd]at ha;cases ha)];exact ha
theorem AW {xs:List Addr}{f:List Nat}(hd:H d=some (.lst (xs.map V.ref)))(hf:f≠[])(ha:H a=some (.lst (nv f))):(upd H d o) a=some (.lst (nv f)):=by
 rw[Z5 (fun e:a=d=>by rw[e,hd]at ha;exact hf (Dj (by injection ha with ha;injection ha)))];exact ha
theorem Bc (hd:H d=some (.lst xs))(ha:ZV H a r u):ZV (upd H d o) a r u:=by
 obtain⟨p,q,h1,h2,h3⟩:=ha;exact⟨p,q,Sj hd h1,Sj hd h2,Sj hd h3⟩
theorem Er (hr:ZK k A):A.units+40<tO:=by
 have:=hr.units;lia
def spFw (K:yS):Sp:=fun vs H Q _=>∃ (a:Addr) (n:Nat) (r u:List Nat),vs=[.ref a]/\ZV H a r u/\ZW n r u/\
 ∀ (H':Hp) (x:Nat) (t b l:Addr),TU n r u x->Z8 H H'->H' t=some (.tup [.ref b,.ref l])->ZV H' b (ren r (nbr r u x)) (ren u (nbr r u x))->H' l=some (.lst (nv (nbr r u x)))->Q (.ref t) H'
def spFm (K:yS):Sp:=fun vs H Q _=>∃ (a:Addr) (n:Nat) (r u:List Nat),vs=[.ref a]/\ZV H a r u/\ZW n r u/\
 ∀ (H':Hp) (x:Nat) (b:Addr),TU n r u x->Z8 H H'->ZV H' b (ren r (nbr r u x)) (ren u (nbr r u x))->Q (.ref b) H'
noncomputable abbrev OF:List Str:=["sheet","tried"]
theorem Kf:ZT OF ["sheet"] (Z2 VO):=fsc (by decide +kernel)
theorem y8:(["f","sheet"]:List Str).Nodup:=by decide +kernel
theorem BL:(["first","sheet"]:List Str).Nodup:=by decide +kernel
theorem zE {fn:Addr}{dz:uC}(T:Bi mg)(lQ:mg "min"=none)(F:Fn K mg "form_with_numbering" VO ["sheet"] f fd)(FZ:Fn K mg "size" WC ["sheet"] fz dz)(GZ:Z6 P w K mg base CX0 1 fz dz ["sheet"] Vl)
  (FN:Fn K mg "numbering" Te ["sheet","first"] fn dn) (GN:Z6 P w K mg base (CX1 P w) 4 fn dn ["sheet","first"] (PN CN))
  (FR:Fn K mg "renumbered" Ti ["sheet","f"] fr dr) (GR:Z6 P w K mg base (CX1 P w) 5 fr dr ["sheet","f"] (Pn K CR)):Z6 P w K mg base CX0 6 f fd ["sheet"] (spFw K):=by
 refine F.F.ok Kf (fun vs H Q E h=>?_) (fun pK A outer s H vs Q E hr h=>?_);obtain⟨a,n,r,u,rfl,_⟩:=h;rfl
 ·obtain⟨a,n,r,u,rfl,o9,hS,k⟩:=h;refine⟨_,(Z4 (LU (j:=1) (N:=OF) (names:=(Z2 VO).names) (N':=["first","sheet"]) (k:=1) (pull:=[0]) (te:=(YR (PN CN) [] E0 (ZL (ZN 1) (ZL (ZN 0) ZG)))) Z Kf.nd Z Z (bsc (by decide +kernel)) Z Z (UQ Z T.range (Z9 (pc0 FZ GZ hr (Z9 (pv 0) Z7)) Z7)) (fun _ _ _ _ _ _=>Zy (i:=0) BL Z (ug Z)) (fun _ _ _ _ _ _=>(pcx FN GN hr Vf (Z9 (pv 1) (Z9 (pv 0) Z7)))))
   (Z3 (ZR (ZM (Hd Z) Z lQ MZ (Z9 (X4 (N:=OF) (names:=(Z2 VO).names) (N':=["f","sheet"]) (k:=1) (pull:=[0]) (te:=(Tx (ZL (YR (Pn K CR) [] E0 (ZL (ZN 1) (ZL (ZN 0) ZG))) (ZL (ZN 0) ZG)))) Z (bsc (by decide +kernel)) Z Z (XC (pv 1)) (fun _ _ _ _ _ _=>Zy (i:=0) y8 Z (ug Z)) (fun _ _ _ _ _ _=>(YV (Z9 (pcx FR GR hr Vf (Z9 (pv 1) (Z9 (pv 0) Z7))) (Z9 (pv 0) Z7))))) Z7))))),?_⟩
  have hm:=hS.most;have hn1:=hS.pos;dsimp only [Yw,Yj];refine Ie (m:=n) (rest:=[some (.ref a)]) (fun i l H=>Row n (nbr r u i)/\H l=some (.lst (nv (nbr r u i)))) (fun i l H H' s h=>⟨h.1,s _ _ h.2⟩) (fun i l H d xs o hi hd h=>⟨h.1,AW hd (fun z=>by have:=h.1.len;rw[z]at this;simp at this;lia) h.2⟩)
   (fun R hR=>⟨_,rfl,a,r,u,rfl,o9,by rw[hS.row.len];exact hR⟩) rfl (fun i H2 R hi s2 hR=>?_) (by lia) fun H3 d ls s3 hd0 ll hG hd=>?_
  refine⟨_,Z,_,Z,a,n,r,u,(i:Int),Z,o9.same s2,hS,fun z=>?_,fun x hx j9 ro H4 l s4 gq hl=>?_⟩;exact absurd z (by unfold Q4;rw[uO ⟨by lia,by lia⟩];decide);have ex:i=x:=by lia
  subst ex;exact hR _ l s4 ⟨ro.back,hl⟩;dsimp only [ZO,Q3,tCB,ZL];refine HI (bs:=ls) (rest:=[some (.ref a)]) (fun i t H=>∃ b,H t=some (.tup [.ref b,.ref (ls.getD i 0)])/\ZV H b (ren r (nbr r u i)) (ren u (nbr r u i))) (fun i t H H' s ⟨b,h1,h2⟩=>⟨b,s _ _ h1,h2.same s⟩) (fun i t H d xs o hi hd ⟨b,h1,h2⟩=>⟨b,Sj hd h1,Bc hd h2⟩)
   (fun R hR=>⟨_,rfl,hR⟩) hd rfl (fun i H2 R hi s2 hR=>?_) (by lia) fun H5 e ts s5 b0 lt hT he=>?_
  obtain⟨rn,hl⟩:=hG i (by lia);have nu:=s2 _ _ hl;refine⟨_,Z,_,Z,a,_,n,r,u,_,Z,o9.same (s3.trans s2),hS.row,hS.col,hm,.inl (SqL.of nu),fun y hy=>?_,by rw[Zs,rn.len];lia,fun z=>absurd ⟨_,Z,rn⟩ z,fun f hf rf H4 b s4 hb=>?_⟩;obtain⟨y',_,rfl⟩:=yE.mp hy;exact .int _;have ef:nbr r u i=f:=RQ hf;subst ef;refine⟨_,Z,(by show 2<=uR;decide),fun t ht=>?_⟩;have u5:=ZY (o:=.tup [.ref b,.ref (ls.getD i 0)]) (Z8.refl H4) ht;exact hR _ t (s4.trans u5) ⟨b,Z0,hb.same u5⟩;refine⟨e,ts,n,fun i=>ren r (nbr r u i),fun i=>ren u (nbr r u i),fun i=>nbr r u i,Z,SqL.of he,fun z=>?_,?_,fun i hi=>?_,fun x hx bQ=>?_⟩;rw[z]at lt;simp at lt;lia;exact Er hr;obtain⟨b,h1,h2⟩:=hT i (by lia);obtain⟨rn,hl⟩:=hG i (by lia);exact⟨.tup (SqT.of h1) (.cons h2.dt (.cons (.lst (SqL.of (s5 _ _ hl)) (RG _)) .nil)),(Ux hS.row rn).len,(Ux hS.col rn).len,rn.len⟩;obtain⟨b,h1,h2⟩:=hT x (by lia);obtain⟨rn,hl⟩:=hG x (by lia);exact k H5 x _ b _ ⟨by lia,rn,fun y hy=>bQ y (by lia)⟩ (s3.trans s5) h1 h2 (s5 _ _ hl)
noncomputable abbrev n_fm:List Str:=["sheet"]
theorem Ai:ZT n_fm ["sheet"] (Z2 Rq):=fsc (by decide +kernel)
theorem zK (F:Fn K mg "form" Rq ["sheet"] f fd)(FW:Fn K mg "form_with_numbering" VO ["sheet"] fw dw)(GW:Z6 P w K mg base CX0 6 fw dw ["sheet"] (spFw K)):Z6 P w K mg base CX0 7 f fd ["sheet"] (spFm K):=by
 refine F.F.ok Ai (fun vs H Q E h=>?_) (fun pK A outer s H vs Q E hr h=>?_);obtain⟨a,n,r,u,rfl,_⟩:=h;rfl;obtain⟨a,n,r,u,rfl,o9,hS,k⟩:=h;refine⟨_,(Z3 (ZR (pj Zp (pc0 FW GW hr (Z9 (pv 0) Z7)) Z1))),?_⟩;exact⟨_,Z,a,n,r,u,Z,o9,hS,fun H' x t b l hx s ht hb hl=>⟨t,_,0,_,Z,Z,SqT.of ht,ZU (j:=0) Z,k H' x b hx s hb⟩⟩
def RS (P:uE)(w:uw)(H:Hp)(t d:Addr)(L:Tl):Prop:=∃ (ps:List Addr) (xs:List (PS2×Addr)),H t=some (.lst (ps.map V.ref))/\ps.length=L.length/\
 (∀ (i:Nat) (p:Addr) (e:PS2×List Nat),ps[i]?=some p->L[i]?=some e->∃ b,H p=some (.tup [.ref b,.str (txt e.2)])/\ZV H b e.1.1 e.1.2)/\DS P w H d xs/\xs.map (·.1)=L.map (·.1)
def Out (t d:Addr)(H H':Hp):Prop:=∀ c o,H c=some o->c≠t->c≠d->H' c=some o
theorem Out.refl (t d:Addr)(H:Hp):Out t d H H:=fun _ _ h _ _=>h
theorem RS.same {P:uE}{w:uw}{H H':Hp}{t d:Addr}{L:Tl}(s:Z8 H H')(h:RS P w H t d L):RS P w H' t d L:=by
 obtain⟨ps,xs,h1,h2,h3,h4,h5⟩:=h;exact⟨ps,xs,s _ _ h1,h2,fun i p e a b=>let ⟨c,x,y⟩:=h3 i p e a b;⟨c,s _ _ x,y.same s⟩,h4.same s,h5⟩
variable{L:Tl}
theorem Fh {xs:List (PS2×Addr)}(h:xs.map (·.1)=L.map (·.1))(p:PS2):(xs.any fun z=>decide (z.1=p))=has L p:=by
 unfold has;have e1:(xs.any fun z=>decide (z.1=p))=(xs.map (·.1)).any fun q=>decide (q=p):=by rw[List.any_map];rfl
 have e2:(L.any fun z=>decide (z.1=p))=(L.map (·.1)).any fun q=>decide (q=p):=by rw[List.any_map];rfl
 rw[e1,e2,h]
theorem Pj {b:Addr}(k:∀ c ys,H c=some (.tup ys)->H' c=some (.tup ys))(h:ZV H b r u):ZV H' b r u:=let ⟨p,q,h1,h2,h3⟩:=h;⟨p,q,k _ _ h1,k _ _ h2,k _ _ h3⟩
theorem AX {m:Nat}(h:m<100):(tu++uU "there are more than ").length<=uR/\((tu++uU "there are more than ")++uU (toString (m:Int))).length<=uR/\(((tu++uU "there are more than ")++uU (toString (m:Int)))++uU " sheets").length<=uR/\((m:Int)).natAbs.log2<1920:=by
 have:∀ k:Fin 100,(tu++uU "there are more than ").length<=1000/\((tu++uU "there are more than ")++uU (toString (k.val:Int))).length<=1000/\(((tu++uU "there are more than ")++uU (toString (k.val:Int)))++uU " sheets").length<=1000/\((k.val:Int)).natAbs.log2<1920:=by decide +kernel
 have four:1000<=uR:=by decide
 obtain⟨a,b,c,d⟩:=this ⟨m,h⟩;exact⟨xQ a four,xQ b four,xQ c four,d⟩
def Ki (P:uE)(w:uw)(CT:Addr):Sp:=fun vs H Q E=>∃ (t d p b:Addr) (L:Tl) (r u z:List Nat) (m:Nat),vs=[.ref t,.ref d,.ref p,.int (m:Int)]/\RS P w H t d L/\H p=some (.tup [.ref b,.str (txt z)])/\ZV H b r u/\L.length<=900/\
 (has L (r,u)=false->m<=L.length->m<100/\E (.ref CT) none H)/\∀ H',Out t d H H'->RS P w H' t d (Zm L (r,u) z)->(has L (r,u)=false->L.length<m)->Q .non H'
noncomputable abbrev zF:List Str:=["told","listed","pair","most"]
theorem BF:ZT zF ["told","listed","pair","most"] (Z2 QX):=fsc (by decide +kernel)
set_option maxHeartbeats 600000 in
theorem B2 (T:Bi mg)(hC:Zk K CT)(me:mg "TooMany"=some (.ref CT))(F:Fn K mg "put" QX ["told","listed","pair","most"] f fd):Z6 P w K mg base (CX1 P w) 1 f fd ["told","listed","pair","most"] (Ki P w CT):=by
 refine F.F.ok1 BF (fun vs H Q E h=>?_) (fun pK A outer s H vs Q E hr h=>?_);obtain⟨t,d,p,b,L,r,u,z,m,rfl,_⟩:=h;rfl
 ·obtain⟨t,d,p,b,L,r,u,z,m,rfl,hRS,hp,hb,h9,hm,k⟩:=h;refine⟨_,(Z4 (ZI (Vs BJ (pj Zp (pv 2) Z1) (pv 1) Z) (Z3 D3) ZH)
   (Z4 (ZI (pq Ae (ZM Zj Z T.len uD (Z9 (pv 0) Z7)) (pv 3)) (Z3 (Ys Z hC Z me Yp (Z9 (Vw (.cons ZQ (.cons (Vv (pv 3)) (.cons ZQ .nil)))) Z7))) ZH)
   (Z4 (Dl (pv 1) (pj Zp (pv 2) Z1) Wy Z)
   (Z3 (Zq (Yz ud tN tL Xn (pv 0) (Z9 (pv 2) Z7))))))),?_⟩
  have hu:∀ {A:uq} {k:Nat},ZK k A->A.units+2<tO:=fun {A k} hr=>by have:=hr.un;lia
  obtain⟨ps,xs,h1,h2,h3,h4,h5⟩:=id hRS;have hxl:xs.length=L.length:=by rw[<-yK (f:=(·.1)) (as:=xs),h5,yK]
  refine⟨_,Z,p,_,0,_,Z,Z,SqT.of hp,ZU (j:=0) Z,_,Z,d,b,xs,r,u,Z,Z,h4,hb,hu hr,_,Z,?_⟩;rw[Fh h5];cases hh:has L (r,u) with
  | true=>
   refine ZP ?_;refine k H (Out.refl t d H) ?_ fun z=>by rw[hh]at z;cases z
   unfold Zm;rw[hh];exact hRS
  | false=>
   refine ZZ ?_;refine⟨_,Z,t,_,Z,.inl (SqL.of h1),_,Z,_,_,Z,Z,_,Z,?_⟩;rw[yK,h2];by_cases fB:m<=L.length;rw[uO (by lia)];refine ZP ?_;obtain⟨cJ,hE⟩:=hm hh fB;obtain⟨q1,q2,q3,q4⟩:=AX cJ;refine⟨_,Z,q1,?_⟩;refine⟨_,Z,(m:Int),Z,q4,_,Z,q2,?_⟩;refine⟨_,Z,q3,?_⟩;exact⟨by show 1<=uR;decide,hE⟩;have mr:L.length<m:=(by lia);rw[uJ (by lia)];refine ZZ ?_;refine⟨_,Z,_,Z,p,_,0,_,Z,Z,SqT.of hp,ZU (j:=0) Z,d,b,xs,r,u,Z,Z,Z,h4,hb,hu hr,?_,?_,fun H4 s4 h4'=>?_⟩;rw[h5];exact Md hh;rw[hxl];exact YN (by lia);have td:t≠d:=by
    rintro rfl;rcases h4.1 with ⟨_,z⟩|z<;>rw[h1]at z<;>cases z
   have t4:H4 t=some (.lst (ps.map V.ref)):=(by rw[s4 t td];exact h1);refine⟨_,Z,.inl ⟨Z,_,SqL.of t4⟩,_,Z,t,_,_,Z,Z,t4,?_,?_⟩;rw[yK,h2];exact YN (by lia);have kt:∀ c ys,H c=some (.tup ys)->(upd H4 t (.lst (ps.map V.ref++[.ref p]))) c=some (.tup ys):=fun c ys hc=>by
    rw[Z5 (fun e=>by rw[e,h1]at hc;cases hc),s4 c (h4.ne hc)];exact hc
   refine k _ (fun c o hc n1 n2=>by rw[Z5 n1,s4 c n2];exact hc) ?_ fun _=>mr;unfold Zm;rw[hh];refine⟨ps++[p],xs++[((r,u),b)],?_,by simp[h2],fun i q e hq he=>?_,h4'.away (uc td |>.symm) (fun ys z=>by rw[t4]at z;cases z),by simp[h5]⟩;rw[Z0,ym];rfl;by_cases hi:i<ps.length;rw[yq hi]at hq;have i4:i<L.length:=(by lia);have he:(L++[((r,u),z)])[i]?=some e:=he;rw[yq i4]at he;obtain⟨c,g1,g2⟩:=h3 i q e hq he;exact⟨c,kt _ _ g1,Pj kt g2⟩;have hl:=(yP.mp hq).1;rw[yJ]at hl;have hi2:i=ps.length:=(by simp at hl;lia);subst hi2;have he:(L++[((r,u),z)])[ps.length]?=some e:=he;rw[h2]at he;simp at hq he;subst hq he;exact⟨b,kt _ _ hp,Pj kt hb⟩
def TS (H:Hp)(t:Addr)(L:Tl):Prop:=∃ (ps:List Addr),H t=some (.lst (ps.map V.ref))/\ps.length=L.length/\
 (∀ (i:Nat) (p:Addr) (e:PS2×List Nat),ps[i]?=some p->L[i]?=some e->∃ b,H p=some (.tup [.ref b,.str (txt e.2)])/\ZV H b e.1.1 e.1.2)
theorem RS.ts {t:Addr}(h:RS P w H t d L):TS H t L:=let ⟨ps,_,h1,h2,h3,_⟩:=h;⟨ps,h1,h2,h3⟩
theorem RS.tup {P:uE}{w:uw}{H H':Hp}{t d:Addr}{L:Tl}(h:RS P w H t d L)(o:Out t d H H'){c:Addr}{ys:List V}(e:H c=some (.tup ys)):H' c=some (.tup ys):=by
 obtain⟨ps,xs,h1,h2,h3,h4,h5⟩:=h;exact o _ _ e (fun z=>by rw[z,h1]at e;cases e) (h4.ne e)
theorem Out.same {H0:Hp}{t:Addr}(s:Z8 H0 H)(ht:H0 t=none)(hd:H0 d=none)(o:Out t d H H'):Z8 H0 H':=fun c x e=>o c x (s c x e) (fun z=>by rw[z,ht]at e;cases e) (fun z=>by rw[z,hd]at e;cases e)
theorem Lh:(uU "st")=txt [115,116]:=by decide +kernel
theorem A4:(uU "")=txt []:=by decide +kernel
theorem Nc {x:Nat}{p:PS2}(s:ZW n p.1 p.2)(h:Sq.TU n p.1 p.2 x):Ym n p (ren p.1 (nbr p.1 p.2 x),ren p.2 (nbr p.1 p.2 x)):=⟨x,h.1,fun y hy=>h.le s hy,rfl⟩
noncomputable def two (n:Nat) (e:PS2×List Nat) (L:Tl) (i:Nat):Tl:=([115,116].take i).foldl (fun L c=>Zm L (fo n (mvp n c e.1)) (e.2++[c])) L
def Wd7 (m:Nat)(L:Tl):Prop:=∀ e∈L,e.2.length<=m/\∀ c∈e.2,c=115\/c=116
theorem JG {T:PS2->Prop}{p:PS2}(h:∀ e∈L,T e.1)(hp:T p):∀ e∈Zm L p z,T e.1:=fun e he=>by
 unfold Zm at he;split at he;exact h e he;have he:e∈L\/e=(p,z):=by simpa using he
 rcases he with he|rfl;exact h e he;exact hp
theorem Mt {p:PS2}{m:Nat}(h:L.length<=m)(hm:has L p=false->L.length<m):(Zm L p z).length<=m:=by
 unfold Zm;split;exact h
 ·rename_i c;have:=hm (by simpa using c);simp;lia
def Rx (P:uE)(w:uw)(CT:Addr):Sp:=fun vs H Q E=>∃ (a:Addr) (n m N:Nat) (r u:List Nat) (Tp:PS2->Prop),vs=[.ref a,.int (m:Int)]/\ZV H a r u/\ZW n r u/\N<=71/\Tp (fo n (r,u))/\(∀ p c,Fm n p->Tp p->(c=115\/c=116)->Tp (fo n (mvp n c p)))/\(∀ L:Tl,Gd n L->(∀ e∈L,Tp e.1)->L.length<=N)/\
 (m<N->m<100/\∀ H':Hp,Z8 H H'->E (.ref CT) none H')/\
 ∀ (H':Hp) (t:Addr) (k:Nat),Z8 H H'->(cl n (r,u) k).length<=k->Gd n (cl n (r,u) k)->TS H' t (cl n (r,u) k)->(cl n (r,u) k).length<=m->Q (.ref t) H'
noncomputable abbrev Ab:List Str:=["sheet","most","told","listed","done","here","letter"]
theorem Wg:ZT Ab ["sheet","most"] (Z2 SO):=fsc (by decide +kernel)
set_option maxHeartbeats 600000 in
theorem Cc {fp ff fm:Addr}{dp df:uC}(T:Bi mg)(F:Fn K mg "reached" SO ["sheet","most"] f fd)(FP:Fn K mg "put" QX ["told","listed","pair","most"] fp dp)(GP:Z6 P w K mg base (CX1 P w) 1 fp dp ["told","listed","pair","most"] (Ki P w CT))
  (FF:Fn K mg "form" Rq ["sheet"] ff df) (GF:Z6 P w K mg base CX0 7 ff df ["sheet"] (spFm K))
  (FM:Fn K mg "moved" T8 ["sheet","word"] fm dm) (GM:Z6 P w K mg base (CX1 P w) 4 fm dm ["sheet","word"] (spMd CW)):Z6 P w K mg base (CX1 P w) 8 f fd ["sheet","most"] (Rx P w CT):=by
 refine F.F.ok1 Wg (fun vs H Q E h=>?_) (fun pK A outer s H vs Q E hr h=>?_);obtain⟨a,n,m,N,r,u,Tp,rfl,_⟩:=h;rfl
 ·obtain⟨a,n,m,N,r,u,Tp,rfl,o9,hS,hN71,h0,hcl,hN,i5,k⟩:=h;refine⟨_,(Z4 (pz Wg 2 (YU Z7))
   (Z4 (pz Wg 3 Qk)
   (Z4 (Zq (pcx FP GP hr (Zx fun _ _ _ z=>z) (Z9 (pv 2) (Z9 (pv 3) (Z9 (YV (Z9 (pc0 FF GF hr (Z9 (pv 0) Z7)) (Z9 ZQ Z7))) (Z9 (pv 1) Z7))))))
   (Z4 (pz Wg 4 Z1)
   (Z4 (Vy PassesOwn.leaving (pq V0 (pv 4) (ZM Zj Z T.len uD (Z9 (pv 2) Z7))) (Z4 (pz Wg 5 (pj ZF (pv 2) (pv 4)))
   (Z4 (Yd PassesOwn.leaving Z (Vi ZQ) (Zy (i:=6) Wg.nd Z (ug Z)) (Z3 (Zq (pcx FP GP hr (Zx fun _ _ _ z=>z) (Z9 (pv 2) (Z9 (pv 3) (Z9 (YV (Z9 (pc0 FF GF hr (Z9 (pcx FM GM hr Vf (Z9 (pj Zp (pv 5) Z1) (Z9 (pv 6) Z7))) Z7)) (Z9 (Zr X8 (pj Zp (pv 5) Z1) (pv 6)) Z7))) (Z9 (pv 1) Z7))))))))
   (Z3 (Pk (i:=4) Wg.nd Z (ug Z) Z1 PB)))))
   (Z3 (ZR (pv 2)))))))),?_⟩
  refine⟨xY _,fun t ht=>?_⟩;refine fun d hd=>?_;have td:d≠t:=by rintro rfl;rw[Z0]at hd;cases hd
  have hd0:H d=none:=by rw[Z5 td]at hd;exact hd
  have s1:Z8 H (upd (upd H t (.lst [])) d (.dK [])):=ZY (ZY (Z8.refl H) ht) hd0;have R1:RS P w (upd (upd H t (.lst [])) d (.dK [])) t d []:=⟨[],[],by rw[Z5 td.symm,Z0];rfl,rfl,fun i p e h=>by simp at h,DS.nil Z0,rfl⟩;generalize upd (upd H t (.lst [])) d (.dK [])=H1 at s1 R1;have four:1000<=uR:=by decide
  refine⟨_,Z,_,Z,_,Z,a,n,r,u,Z,o9.same s1,hS,fun H2 x b hL s2 hb=>?_⟩;have hF:=Nc (p:=(r,u)) hS hL;have eF:=Rn (x:=(r,u)) hS hF;have cF:=hF.can (x:=(r,u)) hS;refine⟨by show 2<=uR;lia,fun p hp=>?_⟩;have s3:Z8 H2 (upd H2 p (.tup [.ref b,.str (uU "")])):=ZY (Z8.refl H2) hp;refine⟨_,Z,t,d,p,b,[],_,_,[],m,Z,R1.same (s2.trans s3),by rw[<-A4];exact Z0,hb.same s3,by show 0<=900;lia,fun hh fB=>?_,fun H4 o4 R4 hl4=>?_⟩;have g1:Gd n (Zm [] (ren r (nbr r u x),ren u (nbr r u x)) []):=Gd.one cF;have:=hN _ g1 (JG (fun e he=>nomatch he) (eF ▸ h0));have hmN:m<N:=by
   have e1:(Zm [] (ren r (nbr r u x),ren u (nbr r u x)) ([]:List Nat)).length=1:=rfl;have fB:m<=0:=fB;lia
  obtain⟨cJ,hE⟩:=i5 hmN;exact⟨cJ,hE _ (s1.trans (s2.trans s3))⟩;have l0:(Zm [] (ren r (nbr r u x),ren u (nbr r u x)) ([]:List Nat)).length<=m:=Mt (xY _) hl4;have s4:Z8 H H4:=Out.same (s1.trans (s2.trans s3)) ht hd0 o4;rw[<-eF]at R4 cF l0;have l0:(cl n (r,u) 0).length<=m:=l0;have R4:RS P w H4 t d (cl n (r,u) 0):=R4;have g0:Gd n (cl n (r,u) 0):=Gd.one cF;have w0:Wd7 0 (cl n (r,u) 0):=N5 (L:=[]) (fun e he=>nomatch he) ⟨yO _,fun c hc=>nomatch hc⟩;clear o4 hb s3 hp eF cF hF hL s2 R1 s1;refine VA (fun σ H2=>∃ (kk:Nat) (o5 o6:Option V),σ=[some (.ref a),some (.int (m:Int)),some (.ref t),some (.ref d),some (.int (kk:Int)),o5,o6]/\Z8 H H2/\RS P w H2 t d (cl n (r,u) kk)/\Gd n (cl n (r,u) kk)/\Wd7 kk (cl n (r,u) kk)/\kk<=71/\(cl n (r,u) kk).length<=m) (fun σ _=>mu 4 σ) ?_ ?_ ?_;exact⟨0,_,_,Z,s4,R4,g0,w0,by lia,l0⟩
  ·rintro σ H5 ⟨kk,o5,o6,rfl,s5,R5,g5,w5,hk71,l5⟩;obtain⟨ps,xs,h1,h2,h3,h4,h5⟩:=id R5;refine⟨_,Z,_,Z,t,_,Z,.inl (SqL.of h1),_,_,Z,Z,_,Z,?_⟩;rw[yK,h2];refine YC (fun pJ=>?_) (fun jZ=>?_)
   ·have pJ:(kk:Int)<((cl n (r,u) kk).length:Int):=uF pJ;have hk:kk<(cl n (r,u) kk).length:=(by lia);have fmT:=K7 (x:=(r,u)) hS Tp h0 hcl kk;have few:=hN _ g5 fun e he=>(fmT e he).2;obtain⟨e,he⟩:∃ e,(cl n (r,u) kk)[kk]?=some e:=⟨_,yR hk⟩;obtain⟨p,hp⟩:∃ p,ps[kk]?=some p:=⟨_,yR (by rw[h2];exact hk)⟩;obtain⟨b,hpb,hbs⟩:=h3 kk p e hp he;have ce:=g5.can e (yA he);obtain⟨fe,te⟩:=fmT e (yA he);have TM:∀ x∈cl n (r,u) kk,Tp x.1:=fun x hx=>(fmT x hx).2;clear fmT;have we:=w5 e (yA he);have next:cl n (r,u) (kk+1)=two n e (cl n (r,u) kk) 2:=Um he;generalize hMe:cl n (r,u) kk=M at *;refine⟨_,Z,_,Z,t,_,_,_,Z,Z,SqL.of h1,ZU (by rw[yw,hp];rfl),?_⟩;refine⟨_,Z,L7 (fun i σ H6=>∃ (o6:Option V),σ=[some (.ref a),some (.int (m:Int)),some (.ref t),some (.ref d),some (.int (kk:Int)),some (.ref p),o6]/\Z8 H H6/\RS P w H6 t d (two n e M i)/\Gd n (two n e M i)/\Wd7 (kk+1) (two n e M i)/\H6 p=some (.tup [.ref b,.str (txt e.2)])/\ZV H6 b e.1.1 e.1.2/\(∀ x∈two n e M i,Tp x.1)/\(two n e M i).length<=m) ⟨_,Z,s5,R5,g5,(fun x hx=>⟨Nat.le_succ_of_le (w5 x hx).1,(w5 x hx).2⟩),hpb,hbs,TM,l5⟩ ?_ ?_⟩
    ·rintro i c σ H6 hc ⟨o6,rfl,s6,R6,g6,w6,hpb,hbs,T6,l6⟩;rw[Lh,Wi]at hc;have oK:c=115\/c=116:=by
      match i,hc with
      | 0,hc=>cases hc;exact .inl rfl
      | 1,hc=>cases hc;exact .inr rfl
      | i+2,hc=>cases hc
     have hok:okW [c]=true:=(by rcases oK with rfl|rfl<;>decide);have cV:two n e M (i+1)=Zm (two n e M i) (fo n (mvp n c e.1)) (e.2++[c]):=(by unfold two;rw[xT,hc,wN];rfl);refine⟨_,Z,_,Z,_,Z,p,_,0,_,Z,Z,SqT.of hpb,ZU (j:=0) Z,?_⟩;refine⟨_,Z,b,[c],n,_,_,Z,by show 1<=100000;lia,hbs,ce.sh.row,ce.sh.col,hS.most,fun _ H7 b7 s7 hb7=>?_,fun z=>by rw[hok]at z;cases z⟩;have hS7:ZW n (mvp n c e.1).1 (mvp n c e.1).2:=UO c ce.sh;have hb7:ZV H7 b7 (mvp n c e.1).1 (mvp n c e.1).2:=hb7;refine⟨b7,n,_,_,Z,hb7,hS7,fun H8 x8 b8 hL8 s8 hb8=>?_⟩;have hF:=Nc (p:=mvp n c e.1) hS7 hL8;have eF:=Rn (x:=mvp n c e.1) hS7 hF;have cF:=hF.can (x:=mvp n c e.1) hS7;have hp8:=s8 _ _ (s7 _ _ hpb);refine⟨_,Z,p,_,1,_,Z,Z,SqT.of hp8,ZU (j:=1) Z,_,Z,_,_,Z,Z,?_,?_⟩;rw[ZD];show e.2.length+1<=uR;lia;refine⟨by show 2<=uR;lia,fun p9 hp9=>?_⟩;have s9:Z8 H8 (upd H8 p9 (.tup [.ref b8,.str (txt e.2++⟨#[c]⟩)])):=ZY (Z8.refl H8) hp9;have few6:=hN _ g6 T6;have tF:Tp (fo n (mvp n c e.1)):=hcl _ _ fe te oK;refine⟨_,Z,t,d,p9,b8,two n e M i,_,_,e.2++[c],m,Z,R6.same (s7.trans (s8.trans s9)),by rw[<-Yh,<-Dv];exact Z0,hb8.same s9,by lia,fun hh fB=>?_,fun kF o10 R10 cj=>?_⟩;rw[<-eF]at cF hh;have gs:=g6.snoc (z:=[]) cF hh;have:=hN _ gs fun x hx=>by
      have hx:x∈two n e M i\/x=(fo n (mvp n c e.1),[]):=by simpa using hx
      rcases hx with hx|rfl;exact T6 x hx;exact tF
     rw[yJ,xt]at this;obtain⟨cJ,hE⟩:=i5 (by lia);exact⟨cJ,hE _ (s6.trans (s7.trans (s8.trans s9)))⟩;rw[<-eF]at R10 cF cj;rw[<-cV]at R10;have R69:=R6.same (s7.trans (s8.trans s9));refine⟨_,Z,Out.same (s6.trans (s7.trans (s8.trans s9))) ht hd0 o10,R10,by rw[cV];exact g6.put cF,by
      rw[cV]
      refine N5 w6 ⟨by rw[yJ];show e.2.length+1<=kk+1;lia,fun y hy=>?_⟩
      exact (yo.mp hy).elim (we.2 y) fun h=>by rw[yH.mp h];exact oK,R69.tup o10 (s9 _ _ hp8),Pj (fun c ys h=>R69.tup o10 h) (hbs.same (s7.trans (s8.trans s9))),by rw[cV];exact JG T6 tF,by rw[cV];exact Mt l6 cj⟩
    ·rintro σ H6 ⟨o6,rfl,s6,R6,g6,w6,_,_,_,l6⟩;rw[Lh,ZD]at *;have R6:RS P w H6 t d (two n e M 2):=R6;have g6:Gd n (two n e M 2):=g6;have w6:Wd7 (kk+1) (two n e M 2):=w6;have l6:(two n e M 2).length<=m:=l6;rw[<-next]at R6 g6 w6 l6;refine⟨_,Z,_,_,Z,Z,⟨kk+1,_,_,Z,s6,R6,g6,w6,by lia,l6⟩,?_⟩;show (100-((kk:Int)+1)).toNat<(100-(kk:Int)).toNat;lia
   have jZ:¬ (kk:Int)<((cl n (r,u) kk).length:Int):=fun z=>jZ (uO z);exact⟨_,Z,k H5 t kk s5 (by lia) g5 R5.ts l5⟩
  rintro σ H Q Q' h ⟨v,e1,v',e2,p,ys,e3,sq,i,j,e4,e5,k,e6,q⟩;exact⟨v,e1,v',e2,p,ys,e3,sq,i,j,e4,e5,k,e6,h _ _ q⟩
def Tw (n:Nat)(x:PS2)(c:Nat):Prop:=∃ k,(cl n x k).length<=k/\Gd n (cl n x k)/\(cl n x k).length=c
theorem re75 {m c:Nat}(o9:ZV H a r u)(hS:ZW n r u)(hn:n<=4)(hc:Tw n (r,u) c)(h1:m<c->∀ H':Hp,Z8 H H'->E (.ref CT) none H')
  (h2:c<=m->∀ (H':Hp) (t:Addr) (k:Nat),Z8 H H'->(cl n (r,u) k).length=c->Gd n (cl n (r,u) k)->TS H' t (cl n (r,u) k)->Q (.ref t) H'):Rx P w CT [.ref a,.int (m:Int)] H Q E:=by
 obtain⟨k,hk,g,e⟩:=hc;have few:=g.few hn;refine⟨a,n,m,c,r,u,(fun p=>has (cl n (r,u) k) p=true),Z,o9,hS,by lia,ML k,fun p d _ hp hd=>?_,fun L gL hL=>?_,fun hm=>⟨by lia,h1 hm⟩,fun H' t k' s' gn g' ht hm=>?_⟩;obtain⟨e',mf,rfl⟩:=yE.mp (Sf.mp hp);exact NB hk mf hd;have:=X5 (L.map (·.1)) ((cl n (r,u) k).map (·.1)) gL.nd fun p hp=>by
  obtain⟨e',mf,rfl⟩:=yE.mp hp;exact Sf.mp (hL e' mf)
 rw[yK,yK]at this;lia;have ee:=KG hk gn;rw[<-ee]at hm g' ht;exact h2 (by lia) H' t k s' e g' ht
def teNo:TE:=fun _ _ _=>False
theorem Aq {e:Expr}:PE X e teNo:=fun _ _ _ _ _ _ h=>uj h
def O3 (C CP CY CX CN CT CM:Addr):Sp:=fun vs H Q E=>∃ (a l:Addr) (wd:Str) (xs:List V) (r u:List Nat),vs=[.ref a,.ref l]/\H l=some (.lst (.str wd::xs))/\ZV H a r u/\
 ((wd="along"/\∃ p q:Int,xs=[.int p,.int q]/\¬ VZ p q/\∀ H':Hp,Z8 H H'->E (.ref CY) none H')\/
 (wd="walk"/\∃ (sq:Int) (px py:Addr) (tx bx ty oV p q S:Int),xs=[.int sq,.ref px,.ref py,.int p,.int q,.int S]/\YI C H px tx bx/\YI C H py ty oV/\0<bx/\0<oV/\Bt 1000 bx/\Bt 1000 oV/\
  ((0<=sq/\sq<(r.length:Int)/\tx/bx=0/\ty/oV=0)->¬ Way p q/\∀ H':Hp,Z8 H H'->E (.ref CY) none H')/\(¬ (0<=sq/\sq<(r.length:Int)/\tx/bx=0/\ty/oV=0)->∀ H':Hp,Z8 H H'->E (.ref CP) none H'))\/
 ((wd="same"\/wd="over")/\Yn CX CN CT [.ref l] H (fun _ _=>False) E)\/
 (wd="reach"/\∃ n m c:Nat,xs=[.int (m:Int)]/\ZW n r u/\n<=4/\Tw n (r,u) c/\m<c/\∀ H':Hp,Z8 H H'->E (.ref CM) none H'))
variable{vs:List V}
theorem Yn.no (h:Yn CX CN CT vs H (fun _ _=>False) E):Yn CX CN CT vs H Q E:=by
 obtain⟨l,w0,a,b,rfl,hl,ha,hb,z,hz,hz9,k1,k2⟩:=h;refine⟨l,w0,a,b,Z,hl,ha,hb,z,hz,hz9,k1,fun r u e hr hu e1 e2 e3=>?_⟩;obtain⟨k3,k4⟩:=k2 r u e hr hu e1 e2 e3;exact⟨k3,fun n rr ru n1 n2=>⟨fun c H' a s' ha=>(k4 n rr ru n1 n2).1 c H' a s' ha |>.elim,(k4 n rr ru n1 n2).2⟩⟩
noncomputable abbrev Jw:List Str:=["sheet","asked","word"]
theorem Le:ZT Jw ["sheet","asked"] (Z2 Uq):=fsc (by decide +kernel)
theorem A9:(["band"]:List Str).Nodup:=by decide +kernel
variable{CM:Addr}
set_option maxHeartbeats 1000000 in
theorem AJ {fst fo fl:Addr}{db dt dst do_ dl:uC}(T:Bi mg)(Ts:mg "str"=none)(FB:Fn K mg "bands_along" Tg ["sheet","p","q"] fb db)(GB:Z6 P w K mg base (CX1 P w) 4 fb db ["sheet","p","q"] (JO CY))
  (FW:FnD K mg "walk" TV ["sheet","place","p","q","steps"] (.int 1) fw dw uv) (GW:Z6 P w K mg base (CX1 P w) 4 fw dw ["sheet","place","p","q","steps"] (Jx C CP CY)) (FWt:Fn K mg "walk_text" NS ["told"] ft dt)
  (FS:Fn K mg "sheet_in" Uz ["asked"] fs ds) (GS:Z6 P w K mg base (CX1 P w) 7 fs ds ["asked"] (Yn CX CN CT)) (gT:Fn K mg "same_text" ND ["told"] fst dst) (FC:Fn K mg "compared" Nn ["one","other"] fc dc)
  (FR:Fn K mg "reached" SO ["sheet","most"] fr dr) (GR:Z6 P w K mg base (CX1 P w) 8 fr dr ["sheet","most"] (Rx P w CM)) (FO:Fn K mg "over_text" Nw ["m"] fo do_) (FL:Fn K mg "laid" JW ["sheet","base"] fl dl)
  (F:Fn K mg "answer" Uq ["sheet","asked"] f fd):Z6 P w K mg base (CX1 P w) 9 f fd ["sheet","asked"] (O3 C CP CY CX CN CT CM):=by
 refine F.F.ok1 Le (fun vs H Q E h=>?_) (fun pK A outer s H vs Q E hr h=>?_);obtain⟨a,l,wd,xs,r,u,rfl,_⟩:=h;rfl;obtain⟨a,l,wd,xs,r,u,rfl,hl,ha,h⟩:=h;have oU:ZK 1 _:=hr.mono (by decide);have hr4:ZK 4 _:=hr.mono (by decide);have three:3<=uR:=by decide
 refine⟨_,(Z4 (pz Le 2 (pj ZF (pv 1) Z1))
  (Z4 (ZI (pq Zz (pv 2) ZQ) XO ZH)
  (Z4 (ZI (pq Zz (pv 2) ZQ) XO ZH)
  (Z4 (ZI (pq Zz (pv 2) ZQ) XO ZH)
  (Z4 (ZI (pq Zz (pv 2) ZQ) XO ZH)
  (Z4 (ZI (pq Zz (pv 2) ZQ) (Z3 (ZR (X4 (N:=Jw) (names:=(Z2 Uq).names) (N':=["band"]) (k:=1) (pull:=[]) (te:=teNo) Z (bsc (by decide +kernel)) Z Z (XC (pcx FB GB hr4 (Zx fun _ _ _ z=>z) (Z9 (pv 0) (Z9 (pj ZF (pv 1) Z1) (Z9 (pj ZF (pv 1) Z1) Z7))))) (fun _ _ _ _ _ _=>Zy (i:=0) A9 Z (ug Z)) (fun _ _ _ _ _ _=>Aq)))) ZH)
  (Z4 (ZI (pq Zz (pv 2) ZQ) XO ZH)
  (Z4 (ZI (pq Zz (pv 2) ZQ) (Z3 (ZR (YU (Z9 (Xi (k:=1) (CX:=CX0) (sp:=Ws) V8 oU Z FWt.m FWt.F.kp FWt.b .nil Y8 (Z9 (Xi GW hr4 Z FW.m FW.kp FW.b .nil (Zx fun _ _ _ z=>z) (Z9 (pv 0) (Z9 (YV (Z9 (pj ZF (pv 1) Z1) (Z9 (pj ZF (pv 1) Z1) (Z9 (pj ZF (pv 1) Z1) Z7)))) (Z9 (pj ZF (pv 1) Z1) (Z9 (pj ZF (pv 1) Z1) (Z9 (pj ZF (pv 1) Z1) Z7)))))) Z7)) Z7)))) ZH)
  (Z4 (ZI (pq Zz (pv 2) ZQ) (Z3 (ZR (YU (Z9 (Xi (k:=1) (CX:=CX0) (sp:=Ws) V8 oU Z gT.m gT.F.kp gT.b .nil Y8 (Z9 (Xi (k:=1) (CX:=CX0) (sp:=Ws) V8 oU Z FC.m FC.F.kp FC.b .nil Y8 (Z9 (pv 0) (Z9 (pcx FS GS hr (Zx fun _ _ _ z=>z) (Z9 (pv 1) Z7)) Z7))) Z7)) Z7)))) ZH)
  (Z4 (ZI (pq Zz (pv 2) ZQ) (Z3 (ZR (YU (Z9 (Y0 Wp Z Ts SJ (Z9 (ZM Zj Z T.len uD (Z9 (pcx FR GR hr (Zx fun _ _ _ z=>z) (Z9 (pv 0) (Z9 (pj ZF (pv 1) Z1) Z7))) Z7)) Z7)) Z7)))) ZH)
  (Z3 (ZR (YU (Z9 (Xi (k:=1) (CX:=CX0) (sp:=Ws) V8 oU Z FO.m FO.F.kp FO.b .nil Y8 (Z9 (Xi (k:=1) (CX:=CX0) (sp:=Ws) V8 oU Z FL.m FL.F.kp FL.b .nil Y8 (Z9 (pv 0) (Z9 (pcx FS GS hr (Zx fun _ _ _ z=>z) (Z9 (pv 1) Z7)) Z7))) Z7)) Z7)))))))))))))),?_⟩
 refine⟨_,Z,l,_,0,_,Z,Z,SqL.of hl,ZU (j:=0) Z,?_⟩;dsimp only [ZO];rcases h with ⟨rfl,p,q,rfl,k1,k2⟩|⟨rfl,sq,px,py,tx,bx,ty,oV,p,q,S,rfl,hx,hy,x0,y0,bX,bY,k1,k2⟩|⟨e|e,hS⟩|⟨rfl,n,m,c,rfl,hSh,hn,hc,hm,k⟩
 
 refine⟨_,Z,Z,_,Z,?_⟩;rw[vne (by decide +kernel)];refine ZZ ?_;refine⟨_,Z,Z,_,Z,?_⟩;rw[vne (by decide +kernel)];refine ZZ ?_;refine⟨_,Z,Z,_,Z,?_⟩;rw[vne (by decide +kernel)];refine ZZ ?_;refine⟨_,Z,Z,_,Z,?_⟩;rw[vne (by decide +kernel)];refine ZZ ?_;refine⟨_,Z,Z,_,Z,?_⟩;rw[veq];refine ZP ?_;exact⟨_,Z,_,Z,l,_,1,_,Z,Z,SqL.of hl,ZU (j:=1) Z,_,Z,l,_,2,_,Z,Z,SqL.of hl,ZU (j:=2) Z,_,p,q,Z,k1,k2⟩
 
 refine⟨_,Z,Z,_,Z,?_⟩;rw[vne (by decide +kernel)];refine ZZ ?_;refine⟨_,Z,Z,_,Z,?_⟩;rw[vne (by decide +kernel)];refine ZZ ?_;refine⟨_,Z,Z,_,Z,?_⟩;rw[vne (by decide +kernel)];refine ZZ ?_;refine⟨_,Z,Z,_,Z,?_⟩;rw[vne (by decide +kernel)];refine ZZ ?_;refine⟨_,Z,Z,_,Z,?_⟩;rw[vne (by decide +kernel)];refine ZZ ?_;refine⟨_,Z,Z,_,Z,?_⟩;rw[vne (by decide +kernel)];refine ZZ ?_;refine⟨_,Z,Z,_,Z,?_⟩;rw[veq];refine ZP ?_;refine⟨_,Z,_,Z,l,_,1,_,Z,Z,SqL.of hl,ZU (j:=1) Z,_,Z,l,_,2,_,Z,Z,SqL.of hl,ZU (j:=2) Z,_,Z,l,_,3,_,Z,Z,SqL.of hl,ZU (j:=3) Z,three,fun tp i8=>?_⟩;have s1:=ZY (o:=.tup [V.int sq,.ref px,.ref py]) (Z8.refl H) i8;have ht:(upd H tp (.tup [V.int sq,.ref px,.ref py])) tp=some (.tup [V.int sq,.ref px,.ref py]):=Z0;generalize upd H tp (.tup [V.int sq,.ref px,.ref py])=H1 at s1 ht;have mh:=s1 _ _ hl;refine⟨_,Z,l,_,4,_,Z,Z,SqL.of mh,ZU (j:=4) Z,_,Z,l,_,5,_,Z,Z,SqL.of mh,ZU (j:=5) Z,_,Z,l,_,6,_,Z,Z,SqL.of mh,ZU (j:=6) Z,a,tp,sq,px,py,tx,bx,ty,oV,r,u,p,q,S,Z,ha.same s1,ht,hx.same s1,hy.same s1,x0,y0,bX,bY,fun g=>?_,fun g H' s'=>k2 g H' (s1.trans s')⟩;obtain⟨k3,k4⟩:=k1 g;exact⟨k3,fun H' s'=>k4 H' (s1.trans s')⟩
 
 subst e;refine⟨_,Z,Z,_,Z,?_⟩;rw[vne (by decide +kernel)];refine ZZ ?_;refine⟨_,Z,Z,_,Z,?_⟩;rw[vne (by decide +kernel)];refine ZZ ?_;refine⟨_,Z,Z,_,Z,?_⟩;rw[vne (by decide +kernel)];refine ZZ ?_;refine⟨_,Z,Z,_,Z,?_⟩;rw[vne (by decide +kernel)];refine ZZ ?_;refine⟨_,Z,Z,_,Z,?_⟩;rw[vne (by decide +kernel)];refine ZZ ?_;refine⟨_,Z,Z,_,Z,?_⟩;rw[vne (by decide +kernel)];refine ZZ ?_;refine⟨_,Z,Z,_,Z,?_⟩;rw[vne (by decide +kernel)];refine ZZ ?_;refine⟨_,Z,Z,_,Z,?_⟩;rw[veq];refine ZP ?_;exact⟨_,Z,_,Z,hS.no⟩
 
 subst e;refine⟨_,Z,Z,_,Z,?_⟩;rw[vne (by decide +kernel)];refine ZZ ?_;refine⟨_,Z,Z,_,Z,?_⟩;rw[vne (by decide +kernel)];refine ZZ ?_;refine⟨_,Z,Z,_,Z,?_⟩;rw[vne (by decide +kernel)];refine ZZ ?_;refine⟨_,Z,Z,_,Z,?_⟩;rw[vne (by decide +kernel)];refine ZZ ?_;refine⟨_,Z,Z,_,Z,?_⟩;rw[vne (by decide +kernel)];refine ZZ ?_;refine⟨_,Z,Z,_,Z,?_⟩;rw[vne (by decide +kernel)];refine ZZ ?_;refine⟨_,Z,Z,_,Z,?_⟩;rw[vne (by decide +kernel)];refine ZZ ?_;refine⟨_,Z,Z,_,Z,?_⟩;rw[vne (by decide +kernel)];refine ZZ ?_;refine⟨_,Z,Z,_,Z,?_⟩;rw[vne (by decide +kernel)];refine ZZ ?_;exact⟨_,Z,_,Z,hS.no⟩
 
 refine⟨_,Z,Z,_,Z,?_⟩;rw[vne (by decide +kernel)];refine ZZ ?_;refine⟨_,Z,Z,_,Z,?_⟩;rw[vne (by decide +kernel)];refine ZZ ?_;refine⟨_,Z,Z,_,Z,?_⟩;rw[vne (by decide +kernel)];refine ZZ ?_;refine⟨_,Z,Z,_,Z,?_⟩;rw[vne (by decide +kernel)];refine ZZ ?_;refine⟨_,Z,Z,_,Z,?_⟩;rw[vne (by decide +kernel)];refine ZZ ?_;refine⟨_,Z,Z,_,Z,?_⟩;rw[vne (by decide +kernel)];refine ZZ ?_;refine⟨_,Z,Z,_,Z,?_⟩;rw[vne (by decide +kernel)];refine ZZ ?_;refine⟨_,Z,Z,_,Z,?_⟩;rw[vne (by decide +kernel)];refine ZZ ?_;refine⟨_,Z,Z,_,Z,?_⟩;rw[veq];refine ZP ?_;have hR:∀ Q':VK,Rx P w CM [.ref a,.int (m:Int)] H Q' E:=fun Q'=>re75 ha hSh hn hc (fun _=>k) fun h=>absurd hm (by omega);refine⟨_,Z,_,Z,l,_,1,_,Z,Z,SqL.of hl,ZU (j:=1) Z,?_⟩;dsimp only [ZG,xf,wL];exact hR _
noncomputable abbrev Pr:Stmt:=Yq U9 0
noncomputable abbrev TY:Stmt:=Yq U9 1
noncomputable abbrev Sg:Stmt:=Yq U9 2
noncomputable abbrev Su:Stmt:=Yq U9 3
noncomputable abbrev Rz:Stmt:=Yq U9 4
noncomputable abbrev RE:Stmt:=Yq U9 5
noncomputable def Yx (c e:Addr):List (Str×V):=[("lying",.ref c),("earlier",.ref e)]
theorem Kr (c e b:Addr):Zl ("lying":Str) (V.ref b) (Yx c e)=Yx b e:=by
 unfold Yx;rw[show Zl ("lying":Str) (V.ref b) [("lying",V.ref c),("earlier",V.ref e)]=(if ("lying":Str)=("lying":Str) then [(("lying":Str),V.ref b),("earlier",V.ref e)] else (("lying":Str),V.ref c)::Zl ("lying":Str) (V.ref b) [("earlier",V.ref e)]) from rfl,uK rfl]
theorem Cf (c e:Addr):Zl ("earlier":Str) (V.ref e) (Zl ("lying":Str) (V.ref c) [])=Yx c e:=by
 rw[show Zl ("earlier":Str) (V.ref e) (Zl ("lying":Str) (V.ref c) [])=(if ("lying":Str)=("earlier":Str) then [(("lying":Str),V.ref e)] else (("lying":Str),V.ref c)::[(("earlier":Str),V.ref e)]) from rfl,uL (by decide +kernel)];rfl
theorem Vk (c e:Addr):(Yx c e).lookup ("lying":Str)=some (V.ref c):=by
 unfold Yx;have b1:(("lying":Str)==("lying":Str))=true:=tf.mpr rfl;simp only[xx,b1]
theorem RI (c e:Addr):(Yx c e).lookup ("earlier":Str)=some (V.ref e):=by
 unfold Yx;have b1:(("earlier":Str)==("lying":Str))=false:=tQ.mpr (by decide +kernel);have b2:(("earlier":Str)==("earlier":Str))=true:=tf.mpr rfl;simp only[xx,b1,b2]
variable{c e:Addr}
theorem X3 {x:Str}(h1:¬ x="lying")(h2:¬ x="earlier"):(Yx c e).lookup x=none:=by
 unfold Yx;have b1:(x==("lying":Str))=false:=tQ.mpr h1;have b2:(x==("earlier":Str))=false:=tQ.mpr h2;simp only[xx,b1,b2]
structure KTx (K:yS)(C:Addr):Prop where
 cl:Cls K C
 nL:YG K C "lying"
 nE:YG K C "earlier"
structure Dsk (C:Addr)(H:Hp)(d dx c e:Addr)(as:List Addr):Prop where
 at_:H d=some (.ins C dx (Yx c e))
 lst:H e=some (.lst (as.map V.ref))
theorem Dsk.same (h:Dsk C H d dx c e as)(s:Z8 H H'):Dsk C H' d dx c e as:=⟨s _ _ h.at_,s _ _ h.lst⟩
theorem Dsk.ne (h:Dsk C H d dx c e as):e≠d:=fun z=>by have:=h.lst;rw[z,h.at_]at this;cases this
def Frm (d e:Addr)(H H':Hp):Prop:=∀ b o,b≠d->b≠e->H b=some o->H' b=some o
theorem Frm.of (s:Z8 H H'):Frm d e H H':=fun b o _ _ h=>s b o h
theorem Frm.trans {dU:Hp}(h:Frm d e H H')(k:Frm d e H' dU):Frm d e H dU:=fun b o n1 n2 z=>k b o n1 n2 (h b o n1 n2 z)
theorem Frm.tup {C:Addr}{H H':Hp}{d dx c e:Addr}{as:List Addr}(h:Dsk C H d dx c e as)(s:Frm d e H H'){b:Addr}{xs:List V}(z:H b=some (.tup xs)):H' b=some (.tup xs):=
 s _ _ (fun q=>by rw[q,h.at_]at z;cases z) (fun q=>by rw[q,h.lst]at z;cases z) z
theorem Frm.sh (h:Dsk C H d dx c e as)(s:Frm d e H H'){b:Addr}(z:ZV H b r u):ZV H' b r u:=
 let ⟨p,q,h1,h2,h3⟩:=z;⟨p,q,s.tup h h1,s.tup h h2,s.tup h h3⟩
noncomputable def WV (C d dx e:Addr)(as:List Addr)(c:Addr)(H:Hp):Hp:=upd (upd H e (.lst (as.map V.ref))) d (.ins C dx (Yx c e))
theorem Ql (ne:e≠d):Dsk C (WV C d dx e as c H) d dx c e as:=⟨Z0,by unfold WV;rw[Z5 ne];exact Z0⟩
theorem VB :Frm d e H (WV C d dx e as c H):=fun b o n1 n2 z=>by unfold WV;rw[Z5 n1,Z5 n2];exact z
noncomputable def shT (x:List Nat×List Nat):List Nat:=ZA x.1++[32]++ZA x.2
theorem VJ {r':List Nat}(h:ZA r=ZA r'):r=r':=(List.map_inj_right (fun _ _ e=>B8 e)).mp h
theorem Lu (s:ZW n r u)(h9:z.length<=900)(he:spf z=[ZA r,ZA u])(hp:XZ (spf z)=true)(k:∀ (H':Hp) (a:Addr),Z8 H H'->ZV H' a r u->Q (.ref a) H'):U6 CX CN CT [.str (txt z)] H Q E:=by
 refine⟨z,Z,h9,(fun q=>by rw[hp]at q;cases q),fun r' u' e' _ _ _ _ _=>?_⟩;rw[he]at e';injection e' with q1 q2
 injection q2 with q2 _
 obtain rfl:=VJ q1;obtain rfl:=VJ q2;refine⟨fun hg=>absurd ⟨n,s.pos,s.most,⟨r,Z,s.row⟩,⟨u,Z,s.col⟩⟩ hg,fun n' rr ru _ _=>?_⟩;obtain rfl:n=n':=by rw[<-s.row.len,rr.len]
 refine⟨fun _ H' a s' ha=>k H' a s' ha,fun g f0 t0 lX eg=>?_⟩;have:=Hs s;rw[eg]at this;simp at this
def spKi (C:Addr):Sp:=fun vs H Q _=>∃ (p dx:Addr),vs=[.ref p]/\H p=some (.ins C dx [])/\∀ (H':Hp) (c e:Addr),(∀ x o,x≠p->H x=some o->H' x=some o)->H e=none->Dsk C H' p dx c e []->ZV H' c [0] [0]->Q .non H'
def JN (C:Addr):Sp:=fun vs H Q _=>∃ (d dx c e:Addr) (as:List Addr),vs=[.ref d]/\Dsk C H d dx c e as/\Q (.ref c) H
def JY (C:Addr):Sp:=fun vs H Q _=>∃ (d dx c e:Addr) (as:List Addr),vs=[.ref d]/\Dsk C H d dx c e as/\Q (.int (as.length:Int)) H
def J8 (C:Addr):Sp:=fun vs H Q _=>∃ (d dx c e b:Addr) (as:List Addr),vs=[.ref d,.ref b]/\Dsk C H d dx c e as/\as.length<=900/\Q .non (WV C d dx e (as++[c]) b H)
def Km (C CN:Addr):Sp:=fun vs H Q E=>∃ (d dx c e:Addr) (as:List Addr),vs=[.ref d]/\Dsk C H d dx c e as/\(as=[]->E (.ref CN) none H)/\∀ nq c',as=nq++[c']->Q .non (WV C d dx e nq c' H)
theorem Pu:ZW 1 [0] [0] where
 pos:=by decide
 most:=by decide
 row:=by constructor<;>simp
 col:=by constructor<;>simp
 conn:=fun T h0 _ x hx=>by (have:x=0:=(by lia);rw[this];exact h0)
noncomputable abbrev n_Ki:List Str:=["self"]
theorem Ar:ZT n_Ki ["self"] (Z2 Pr):=fsc (by decide +kernel)
theorem zI {tF:Tok}(T:KTx K C)(C_F:mg "FIRST_SHEET"=some (.str "0 0" tF))(FR:Fn K mg "read" TJ ["text"] fr dr)(GR:Z6 P w K mg base (CX1 P w) 6 fr dr ["text"] (U6 CX CN CT))(F:Fun K "__init__" "Desk.__init__" Pr f fd):Z6 P w K mg base (CX1 P w) 7 f fd ["self"] (spKi C):=by
 refine F.ok1 Ar (fun vs H Q E h=>?_) (fun pK A outer s H vs Q E hr h=>?_);obtain⟨p,dx,rfl,_⟩:=h;rfl;obtain⟨p,dx,rfl,hp,k⟩:=h;refine⟨_,Z4 (WI (pv 0) (pcx FR GR hr (Zx fun _ _ _ z=>z) (Z9 (Zv (v:=.str "0 0") (by rfl) C_F ⟨_,Z⟩) Z7)) Z) (Z3 (WI (pv 0) (YU Z7) Z)),?_⟩;have e0:(uU "0 0")=txt (ZA [0]++[32]++ZA [0]):=by decide +kernel
 rw[e0];dsimp only [Yw,Ra,YR,ZL,tC,ZG,ZN,xf,wL];refine Lu (z:=ZA [0]++[32]++ZA [0]) Pu (by decide +kernel) (by decide +kernel) (by decide +kernel) fun H1 c s1 hc=>?_;refine⟨_,Z,p,C,dx,[],Z,s1 _ _ hp,T.cl,T.nL,(by show 0<1000;decide),?_⟩;refine⟨(by show 0<=uR;decide),fun e he=>?_⟩;have fD:(upd H1 p (.ins C dx (Zl "lying" (.ref c) []))) p=some (.ins C dx (Zl "lying" (.ref c) [])):=Z0;have nep:e≠p:=fun z=>by rw[z,fD]at he;cases he
 have jY:H1 e=none:=by rw[Z5 nep]at he;exact he
 have jt:(upd (upd H1 p (.ins C dx (Zl "lying" (.ref c) []))) e (.lst [])) p=some (.ins C dx (Zl "lying" (.ref c) [])):=by rw[Z5 (uc nep)];exact fD
 refine⟨_,Z,p,C,dx,_,Z,jt,T.cl,T.nE,(by show 1<1000;decide),?_⟩;rw[Cf];have fr:∀ x o,x≠p->H1 x=some o->(upd (upd (upd H1 p (.ins C dx (Zl "lying" (.ref c) []))) e (.lst [])) p (.ins C dx (Yx c e))) x=some o:=fun x o n1 z=>by
  rw[Z5 n1,Z5 (fun q=>by rw[q,jY]at z;cases z),Z5 n1];exact z
 refine k _ c e (fun x o n1 z=>fr x o n1 (s1 _ _ z)) (s1.free jY) ⟨Z0,by rw[Z5 nep];exact Z0⟩ ?_;have nt:∀ {b:Addr} {xs:List V},H1 b=some (.tup xs)->b≠p:=fun z q=>by rw[q,s1 _ _ hp]at z;cases z
 obtain⟨a1,a2,g1,g2,g3⟩:=hc;exact⟨a1,a2,fr _ _ (nt g1) g1,fr _ _ (nt g2) g2,fr _ _ (nt g3) g3⟩
noncomputable abbrev zL:List Str:=["self"]
theorem AH:ZT zL ["self"] (Z2 Sg):=fsc (by decide +kernel)
theorem Cr (T:KTx K C)(F:MFn K C "sheet" "Desk.sheet" Sg ["self"] f fd):Z6 P w K mg base CX0 1 f fd ["self"] (JN C):=by
 refine F.F.ok AH (fun vs H Q E h=>?_) (fun pK A outer s H vs Q E hr h=>?_);obtain⟨d,dx,c,e,as,rfl,_⟩:=h;rfl;obtain⟨d,dx,c,e,as,rfl,hd,k⟩:=h;refine⟨_,Z3 (ZR (YM (pv 0) Z)),?_⟩;exact⟨_,Z,d,C,dx,_,_,Z,hd.at_,T.cl,T.nL,Vk c e,k⟩
noncomputable abbrev Ao:List Str:=["self"]
theorem Cz:ZT Ao ["self"] (Z2 Su):=fsc (by decide +kernel)
theorem Cy (TB:Bi mg)(T:KTx K C)(F:MFn K C "steps" "Desk.steps" Su ["self"] f fd):Z6 P w K mg base CX0 1 f fd ["self"] (JY C):=by
 refine F.F.ok Cz (fun vs H Q E h=>?_) (fun pK A outer s H vs Q E hr h=>?_);obtain⟨d,dx,c,e,as,rfl,_⟩:=h;rfl;obtain⟨d,dx,c,e,as,rfl,hd,k⟩:=h;refine⟨_,Z3 (ZR (ZM Zj Z TB.len uD (Z9 (YM (pv 0) Z) Z7))),?_⟩;refine⟨_,Z,d,C,dx,_,_,Z,hd.at_,T.cl,T.nE,RI c e,e,_,Z,.inl (SqL.of hd.lst),?_⟩;rw[yK];exact k
noncomputable abbrev zC:List Str:=["self","sheet"]
theorem AV:ZT zC ["self","sheet"] (Z2 Rz):=fsc (by decide +kernel)
theorem Bb (T:KTx K C)(F:MFn K C "lay" "Desk.lay" Rz ["self","sheet"] f fd):Z6 P w K mg base CX0 1 f fd ["self","sheet"] (J8 C):=by
 refine F.F.ok AV (fun vs H Q E h=>?_) (fun pK A outer s H vs Q E hr h=>?_);obtain⟨d,dx,c,e,b,as,rfl,_⟩:=h;rfl;obtain⟨d,dx,c,e,b,as,rfl,hd,hl,k⟩:=h;refine⟨_,Z4 (Zq (Yz ud tN tL Xn (YM (pv 0) Z) (Z9 (YM (pv 0) Z) Z7))) (Z3 (WI (pv 0) (pv 1) Z)),?_⟩;refine⟨_,Z,d,C,dx,_,_,Z,hd.at_,T.cl,T.nE,RI c e,.inl ⟨Z,_,SqL.of hd.lst⟩,_,Z,d,C,dx,_,_,Z,hd.at_,T.cl,T.nL,Vk c e,e,_,_,Z,Z,hd.lst,by rw[yK];exact YN (by lia),?_⟩;refine⟨_,Z,_,Z,d,C,dx,Yx c e,Z,by rw[Z5 (uc hd.ne)];exact hd.at_,T.cl,T.nL,(by show 2<1000;decide),?_⟩;rw[Kr];have em:as.map V.ref++[V.ref c]=(as++[c]).map V.ref:=by simp
 rw[em];exact k
noncomputable abbrev Ag:List Str:=["self"]
theorem BZ:ZT Ag ["self"] (Z2 RE):=fsc (by decide +kernel)
theorem Bk (TB:Bi mg)(hC:Zk K CN)(me:mg "NothingDone"=some (.ref CN))(T:KTx K C)(F:MFn K C "undo" "Desk.undo" RE ["self"] f fd):Z6 P w K mg base (CX1 P w) 1 f fd ["self"] (Km C CN):=by
 refine F.F.ok1 BZ (fun vs H Q E h=>?_) (fun pK A outer s H vs Q E hr h=>?_);obtain⟨d,dx,c,e,as,rfl,_⟩:=h;rfl;obtain⟨d,dx,c,e,as,rfl,hd,hE,k⟩:=h;refine⟨_,Z4 (ZI (pq Zz (ZM Zj Z TB.len uD (Z9 (YM (pv 0) Z) Z7)) Z1) (Z3 (Ys Z hC Z me Yp (Z9 ZQ Z7))) ZH)
  (Z3 (WI (pv 0) (Kw ud PySem.F.slot_list_pop PySem.F.type_list_pop Kz (YM (pv 0) Z)) Z)),?_⟩
 refine⟨_,Z,d,C,dx,_,_,Z,hd.at_,T.cl,T.nE,RI c e,e,_,Z,.inl (SqL.of hd.lst),Z,_,Z,?_⟩;rw[yK];by_cases z:as=[];subst z;rw[show decide (V.int (([]:List Addr).length:Int)=V.int 0)=true from uO rfl];refine ZP ?_;exact⟨by show 1<=uR;decide,hE Z⟩;rw[uJ (fun q=>z (uX.mp (by have:=V.int.inj q;lia)))];refine ZZ ?_;obtain⟨nq,c',rfl⟩:∃ nq c',as=nq++[c']:=⟨as.dropLast,as.getLast z,(vz z).symm⟩;refine⟨_,Z,d,C,dx,_,_,Z,hd.at_,T.cl,T.nE,RI c e,.inl ⟨Z,_,SqL.of hd.lst⟩,e,_,.ref c',Z,Z,hd.lst,by simp,?_⟩;refine⟨_,Z,d,C,dx,Yx c e,Z,by rw[Z5 (uc hd.ne)];exact hd.at_,T.cl,T.nL,(by show 2<1000;decide),?_⟩;rw[Kr];have em:((nq++[c']).map V.ref).dropLast=nq.map V.ref:=by simp
 rw[em];exact k nq c' rfl
noncomputable def chs:List Str:=["sheet","shear","turn","mirror"]
theorem Sz:(chs.map V.str).all WZ=true:=by decide
variable{kd:Nat}
theorem Tt.head {asked:List V}(h:Tt kd m asked):∃ z rest,asked=.str z::rest/\inV (.str z) (chs.map V.str)=true:=by
 rcases h with ⟨_,rfl⟩|⟨_,rfl⟩;exact⟨_,_,Z,by decide +kernel⟩;exact⟨_,_,Z,by decide +kernel⟩
theorem Yn.mono {Q':VK}(h:Yn CX CN CT vs H Q E)(m:∀ v H',Q v H'->Q' v H'):Yn CX CN CT vs H Q' E:=by
 obtain⟨l,w0,a,b,rfl,hl,ha,hb,z,hz,hz9,k1,k2⟩:=h;refine⟨l,w0,a,b,Z,hl,ha,hb,z,hz,hz9,k1,fun r u e hr hu e1 e2 e3=>?_⟩;obtain⟨k3,k4⟩:=k2 r u e hr hu e1 e2 e3;exact⟨k3,fun n rr ru n1 n2=>⟨fun c H' a s' ha=>m _ _ ((k4 n rr ru n1 n2).1 c H' a s' ha),(k4 n rr ru n1 n2).2⟩⟩
def Asks (Cp:Addr)(z w0:List Nat)(vs:List V)(H:Hp):Prop:=∃ (ws:List (List Nat)) (ks:List Kd),spf z=w0::ws/\X1 w0=some ks/\ws.length=ks.length/\Xq Cp ks ws vs H
noncomputable def inS (s:Str):Bool:=inV (.str s) (chs.map V.str)
def Xf (Cp CR C CU CX CN CG CP CY CM:Addr):Sp:=fun vs H Q E=>∃ (d dx c e:Addr) (as:List Addr) (n:Nat) (r u z:List Nat),vs=[.ref d,.str (txt z)]/\Dsk C H d dx c e as/\as.length<=900/\ZV H c r u/\ZW n r u/\z.length<=100/\(Yc z=false->∀ H':Hp,Z8 H H'->E (.ref CR) none H')/\
 (Yc z=true->∀ (H1:Hp) (l:Addr) (w0:List Nat) (vs:List V),Z8 H H1->Asks Cp z w0 vs H1->H1 l=some (.lst (.str (txt w0)::vs))->
 ((∃ (kd:Nat) (m:Int),Tt kd m (.str (txt w0)::vs)/\∀ (H':Hp) (b l':Addr),Frm d e H H'->Dsk C H' d dx b e (as++[c])->ZV H' b (dd n kd m (r,u)).1 (dd n kd m (r,u)).2->H' l'=some (.lst [.str (txt (shT (dd n kd m (r,u))))])->Q (.ref l') H')
 \/(txt w0="sheet"/\Yn CX CN CG [.ref l] H1 (fun v H2=>∃ (b:Addr) (n':Nat) (r' u':List Nat),v=.ref b/\Z8 H1 H2/\ZV H2 b r' u'/\ZW n' r' u'/\∀ (H':Hp) (l':Addr),Frm d e H H'->Dsk C H' d dx b e (as++[c])->ZV H' b r' u'->H' l'=some (.lst [.str (txt (shT (r',u')))])->Q (.ref l') H') E)
 \/(txt w0="undo"/\(as=[]->E (.ref CU) none H1)/\∀ nq c',as=nq++[c']->∃ (n':Nat) (r' u':List Nat),ZV H c' r' u'/\ZW n' r' u'/\∀ (H':Hp) (l':Addr),Frm d e H H'->Dsk C H' d dx c' e nq->H' l'=some (.lst [.str (txt (shT (r',u')))])->Q (.ref l') H')
 \/(inS (txt w0)=false/\txt w0≠"undo"/\∀ Q':VK,O3 Cp CP CY CX CN CG CM [.ref c,.ref l] H1 Q' E)))
noncomputable abbrev Aa:List Str:=["self","row","asked"]
theorem KU:ZT Aa ["self","row"] (Z2 TY):=fsc (by decide +kernel)
variable{Cp CU:Addr}
set_option maxHeartbeats 1000000 in
theorem AI {fl fu fa aC:Addr}{dt dl du da:uC}(T:KTx K C)(C_CH:mg "CHANGES"=some (.ref aC))(iR:TTs K aC chs)(FTs:Fn K mg "things_in" UP ["row"] ft dt)(GTs:Z6 P w K mg base (CX1 P w) 6 ft dt ["row"] (JL Cp CR))(FLa:MFn K C "lay" "Desk.lay" Rz ["self","sheet"] fl dl)(GLa:Z6 P w K mg base CX0 1 fl dl ["self","sheet"] (J8 C))(FUn:MFn K C "undo" "Desk.undo" RE ["self"] fu du)(GUn:Z6 P w K mg base (CX1 P w) 1 fu du ["self"] (Km C CU))(FAn:Fn K mg "answer" Uq ["sheet","asked"] fa da)(GAn:Z6 P w K mg base (CX1 P w) 9 fa da ["sheet","asked"] (O3 Cp CP CY CX CN CG CM))(FCh:Fn K mg "changed" SQ ["sheet","asked"] fc dc)(GCh:Z6 P w K mg base (CX1 P w) 8 fc dc ["sheet","asked"] (Kg CX CN CG))(jh:Fn K mg "shown" RN ["sheet"] fs ds)(dR:Z6 P w K mg base CX0 2 fs ds ["sheet"] OQ)(F:MFn K C "say" "Desk.say" TY ["self","row"] f fd):Z6 P w K mg base (CX1 P w) 10 f fd ["self","row"] (Xf Cp CR C CU CX CN CG CP CY CM):=by
 refine F.F.ok1 KU (fun vs H Q E h=>?_) (fun pK A outer s H vs Q E hr h=>?_);obtain⟨d,dx,c,e,as,n,r,u,z,rfl,_⟩:=h;rfl;obtain⟨d,dx,c,e,as,n,r,u,z,rfl,hd,h9,hc,hS,hz,hE0,hk⟩:=h;have oU:ZK 1 _:=hr.mono (by decide);have one:1<=uR:=by decide
 refine⟨_,(Z4 (pz KU 2 (pcx FTs GTs hr (Zx fun _ _ _ z=>z) (Z9 (pv 1) Z7)))
  (Z4 (ZI (Vs Nx (pj ZF (pv 2) Z1) (Zv (v:=.ref aC) (by rfl) C_CH Z) Z) (Z3 (Zq (Uv (pv 0) T.cl FLa.m GLa oU FLa.b .nil Y8 (Z9 (pcx FCh GCh hr (Zx fun _ _ _ z=>z) (Z9 (YM (pv 0) Z) (Z9 (pv 2) Z7))) Z7)))) (Z3 (ZI (pq Zz (pj ZF (pv 2) Z1) ZQ) (Z3 (Zq (Xm (pv 0) T.cl FUn.m GUn oU FUn.b .nil (Zx fun _ _ _ z=>z)))) (Z3 (ZR (pcx FAn GAn hr (Zx fun _ _ _ z=>z) (Z9 (YM (pv 0) Z) (Z9 (pv 2) Z7))))))))
  (Z3 (ZR (YU (Z9 (pc0 jh dR hr (Z9 (YM (pv 0) Z) Z7)) Z7)))))),?_⟩
 refine⟨_,Z,z,Z,hz,fun hR w0 ws ks e1 e2 e3 _ H1 l xs s1 _ hV hl=>?_,fun hR=>hE0 hR⟩;dsimp only [ZO];have hk:=hk hR H1 l w0 xs s1 ⟨ws,ks,e1,e2,e3,hV⟩ hl;have jq:=hd.same s1;have gd:=hc.same s1;have fin:∀ (H3:Hp) (b:Addr) (as3:List Addr) (k3:Nat) (y:List Nat×List Nat) (D:Zc),Frm d e H H3->Dsk C H3 d dx b e as3->ZV H3 b y.1 y.2->ZW k3 y.1 y.2->(∀ (H':Hp) (l':Addr),Frm d e H H'->Dsk C H' d dx b e as3->ZV H' b y.1 y.2->H' l'=some (.lst [.str (txt (shT y))])->D.rt (.ref l') H')->
   Q3 (VP (ZL (YR OQ [] E0 (ZL (tFld K (ZN 0) "lying") ZG)) ZG)) D [some (.ref d),some (.str (txt z)),some (.ref l)] H3:=by
  intro H3 b as3 k3 y D f3 d3 hb3 hS3 k3';refine⟨_,Z,d,C,dx,_,_,Z,d3.at_,T.cl,T.nL,Vk b e,b,k3,y.1,y.2,Z,hb3,hS3,fun H4 s4=>?_⟩;refine⟨one,fun l' oF=>?_⟩;have s5:=ZY (o:=.lst [V.str (txt (shT y))]) s4 (s4.free oF);have f5:Frm d e H (upd H4 l' (.lst [V.str (txt (shT y))])):=f3.trans (Frm.of s5);exact k3' _ l' f5 (d3.same s5) (hb3.same s5) Z0
 rcases hk with ⟨kd,m,hCh,k⟩|⟨ew,k⟩|⟨ew,hE,k⟩|⟨ew,ew2,k⟩;obtain⟨zh,rest,eh,lZ⟩:=hCh.head;injection eh with eh _
 rw[<-eh]at lZ;refine⟨_,Z,l,_,0,_,Z,Z,SqL.of hl,ZU (j:=0) Z,aC,_,Z,.inr (iR.sq H1),Z,Sz,_,Z,?_⟩;rw[uL (by decide),lZ];refine ZP ?_;refine⟨_,Z,d,dx,_,Z,jq.at_,X3 (by decide +kernel) (by decide +kernel),?_⟩;refine⟨_,Z,d,C,dx,_,_,Z,jq.at_,T.cl,T.nL,Vk c e,_,Z,.inl ⟨c,l,n,kd,m,r,u,_,Z,gd,hS,hl,hCh,fun H2 b s2 hb=>?_⟩⟩;have hd2:=jq.same s2;refine⟨d,dx,c,e,b,as,Z,hd2,h9,?_⟩;have f2:Frm d e H (WV C d dx e (as++[c]) b H2):=(Frm.of (s1.trans s2)).trans VB;exact fin _ b (as++[c]) n _ _ f2 (Ql hd.ne) (VB.sh hd2 hb) (SD (x:=(r,u)) hS) fun H' l' f' d' s' oF=>k H' b l' f' d' s' oF;rw[ew]at hl;refine⟨_,Z,l,_,0,_,Z,Z,SqL.of hl,ZU (j:=0) Z,aC,_,Z,.inr (iR.sq H1),Z,Sz,_,Z,?_⟩;rw[uL (by decide),show inV (V.str (uU "sheet")) (chs.map V.str)=true from by decide +kernel];refine ZP ?_;refine⟨_,Z,d,dx,_,Z,jq.at_,X3 (by decide +kernel) (by decide +kernel),?_⟩;refine⟨_,Z,d,C,dx,_,_,Z,jq.at_,T.cl,T.nL,Vk c e,_,Z,.inr ⟨c,l,_,Z,hl,Yn.mono k fun v H2 h=>?_⟩⟩;obtain⟨b,n',r',u',rfl,s2,hb,jn,k'⟩:=h;have hd2:=jq.same s2;refine⟨d,dx,c,e,b,as,Z,hd2,h9,?_⟩;have f2:Frm d e H (WV C d dx e (as++[c]) b H2):=(Frm.of (s1.trans s2)).trans VB;exact fin _ b (as++[c]) n' (r',u') _ f2 (Ql hd.ne) (VB.sh hd2 hb) jn fun H' l' f' d' s' oF=>k' H' l' f' d' s' oF;rw[ew]at hl;refine⟨_,Z,l,_,0,_,Z,Z,SqL.of hl,ZU (j:=0) Z,aC,_,Z,.inr (iR.sq H1),Z,Sz,_,Z,?_⟩;rw[uL (by decide),show inV (V.str (uU "undo")) (chs.map V.str)=false from by decide +kernel];refine ZZ ?_;refine⟨_,Z,l,_,0,_,Z,Z,SqL.of hl,ZU (j:=0) Z,Z,_,Z,?_⟩;rw[veq];refine ZP ?_;refine⟨_,Z,d,dx,_,Z,jq.at_,X3 (by decide +kernel) (by decide +kernel),d,dx,c,e,as,Z,jq,hE,fun nq c' ea=>?_⟩;obtain⟨n',r',u',mG,jn,k'⟩:=k nq c' ea;have f2:Frm d e H (WV C d dx e nq c' H1):=(Frm.of s1).trans VB;exact fin _ c' nq n' (r',u') _ f2 (Ql hd.ne) (VB.sh jq (mG.same s1)) jn fun H' l' f' d' _ oF=>k' H' l' f' d' oF;refine⟨_,Z,l,_,0,_,Z,Z,SqL.of hl,ZU (j:=0) Z,aC,_,Z,.inr (iR.sq H1),Z,Sz,_,Z,?_⟩;rw[uL (by decide),show inV (V.str (txt w0)) (chs.map V.str)=false from ew];refine ZZ ?_;refine⟨_,Z,l,_,0,_,Z,Z,SqL.of hl,ZU (j:=0) Z,Z,_,Z,?_⟩;rw[vne ew2];refine ZZ ?_;refine⟨_,Z,d,C,dx,_,_,Z,jq.at_,T.cl,T.nL,Vk c e,_,Z,?_⟩;dsimp only [ZG,xf,wL];exact k _
theorem EJ (h1:∀ x∈r,x<36)(h2:∀ x∈u,x<36)(h3:r.length=u.length)(h4:1<=r.length)(h5:r.length<=36):XZ [ZA r,ZA u]=true:=by
 have ok:∀ {w:List Nat},(∀ x∈w,x<36)->1<=w.length->w.length<=36->YT (ZA w)=true:=fun {w} a b c=>by
  unfold YT;rw[YB,uO b,uO c];show (List.all _ _)=true;rw[yn];intro d hd;obtain⟨k,hk,rfl⟩:=yE.mp hd;exact uO (yE.mpr ⟨k,yL.mpr (a k hk),rfl⟩)
 show (decide _&&_&&_)=true;rw[ok h1 h4 h5,ok h2 (by lia) (by lia),YB,YB,uO h3];rfl
noncomputable def U2 (a:List Nat):List Nat:=a.map fun c=>(sgn c).toNat
noncomputable def Rf (r:List Nat):Bool:=decide r.Nodup&&r.all fun x=>decide (x<r.length)
noncomputable def OW (r u:List Nat):Bool:=decide (r.length=u.length)&&Rf r&&Rf u
noncomputable def rdB (k:Nat)(z:List Nat):Bool:=if k=2 then !XZ (spf z) else if k=3 then XZ (spf z)&&(match spf z with|[a,b]=>decide (a=ZA (U2 a))&&decide (b=ZA (U2 b)) && !OW (U2 a) (U2 b)|_=>false) else if k=4 then decide (spf z=[ZA [0,1],ZA [0,1]]) else false
theorem LG (h:Row n r):Rf r=true:=by
 unfold Rf;rw[uO h.nd,Bool.true_and,yn];exact fun x hx=>uO (by rw[h.len];exact h.lt x hx)
theorem F6 (h:Row n r)(h':Row n u):OW r u=true:=by
 unfold OW;rw[LG h,LG h',h.len,h'.len,uO rfl];rfl
theorem Bp (h9:z.length<=900)(hB:rdB k z=true)(h2:k=2->∀ H':Hp,Z8 H H'->E (.ref CX) none H')(h3:k=3->∀ H':Hp,Z8 H H'->E (.ref CN) none H')
  (h4:k=4->∀ (H':Hp) (dx:Addr),Z8 H H'->H' dx=some (.xd [("square",.int 1)])->E (.ref CT) (some dx) H'):U6 CX CN CT [.str (txt z)] H Q E:=by
 unfold rdB at hB;by_cases c2:k=2;rw[uK c2]at hB;have hp:XZ (spf z)=false:=by simpa using hB
 refine⟨z,Z,h9,fun _=>h2 c2,fun r u e a1 a2 a3 a4 a5=>?_⟩;have:=EJ a1 a2 a3 a4 a5;rw[<-e,hp]at this;cases this;rw[uL c2]at hB;by_cases c3:k=3
 ·rw[uK c3,yy]at hB;obtain⟨hp,hB⟩:=hB;split at hB
  ·next a b e=>
   rw[yy,yy,uH,uH]at hB;obtain⟨⟨b1,b2⟩,b3⟩:=hB;have key:∀ r u:List Nat,spf z=[ZA r,ZA u]->r=U2 a/\u=U2 b:=fun r u e'=>by
    rw[e,b1,b2]at e';injection e' with q1 q2
    injection q2 with q2 _
    exact⟨(VJ q1).symm,(VJ q2).symm⟩
   have no:∀ (r u:List Nat) (n:Nat),spf z=[ZA r,ZA u]->Row n r->Row n u->False:=fun r u n e' rr ru=>by
    obtain⟨rfl,rfl⟩:=key r u e';rw[F6 rr ru]at b3;cases b3
   refine⟨z,Z,h9,(fun q=>by rw[hp]at q;cases q),fun r u e' _ _ _ _ _=>⟨fun _=>h3 c3,fun n rr ru _ _=>(no r u n e' rr ru).elim⟩⟩
  cases hB
 rw[uL c3]at hB;by_cases c4:k=4;rw[uK c4,uH]at hB;have hp:XZ [ZA [0,1],ZA [0,1]]=true:=by decide +kernel
 refine⟨z,Z,h9,(fun q=>by rw[hB,hp]at q;cases q),fun r u e _ _ _ _ _=>?_⟩;rw[hB]at e;injection e with q1 q2
 injection q2 with q2 _
 obtain rfl:=VJ q1;obtain rfl:=VJ q2;have r2:Row 2 [0,1]:=by constructor<;>decide
 refine⟨fun hg=>absurd ⟨2,by decide,by decide,⟨_,Z,r2⟩,⟨_,Z,r2⟩⟩ hg,fun n rr ru _ _=>?_⟩;obtain rfl:2=n:=by rw[<-rr.len];rfl
 rw[zR];refine⟨fun q=>absurd q (by decide),fun g f0 t0 lX e=>?_⟩;injection e with _ e
 injection e with e _
 injection e with e _
 subst e;exact h4 c4;rw[uL c4]at hB;cases hB
instance (p q:Int):Decidable (Way p q):=by unfold Way;infer_instance
noncomputable def PQ (a b:List Nat):Bool:=match Zw a,Zw b with
 | some p,some q=>!decide (VZ p q)
 | _,_=>false
noncomputable def OK (n k:Nat)(sq x y p q:List Nat):Bool:=match Ox sq,XY x,XY y,Zw p,Zw q with
 | some i,some tx,some ty,some p,some q=>decide (0<tx.2/\tx.2<1024/\0<ty.2/\ty.2<1024)&&(if i<n/\tx.1/tx.2=0/\ty.1/ty.2=0 then decide (k=6) && !decide (Way p q) else decide (k=5))
 | _,_,_,_,_=>false
noncomputable def dueW (n k:Nat):List (List Nat)->Bool
 | [w0]=>decide (k=1)&&decide (txt w0="undo")
 | [w0,m]=>decide (k=7)&&decide (txt w0="reach")&&decide (Zw m=some 1\/Zw m=some 2)
 | [w0,a,b]=>if txt w0="along" then decide (k=6)&&PQ a b else (decide (txt w0="sheet")||decide (txt w0="same")||decide (txt w0="over"))&&rdB k (a++[32]++b)
 | [w0,sq,x,y,p,q,s]=>decide (txt w0="walk")&&OK n k sq x y p q
 | _=>false
noncomputable def VY (n:Nat)(z:List Nat)(k:Nat):Bool:=if k=0 then !Yc z else Yc z&&dueW n k (spf z)
noncomputable def cl5 (CR CU CX CN CG CP CY CM:Addr)(k:Nat):Addr:=if k=0 then CR else if k=1 then CU else if k=2 then CX else if k=3 then CN else if k=4 then CG else if k=5 then CP else if k=6 then CY else CM
theorem Xq.get (h:Xq C ks ws vs H){k:Kd}(h1:ks[i]?=some k)(h2:ws[i]?=some z):∃ v,vs[i]?=some v/\ThV C k z v H:=by
 have hl:i<vs.length:=by rw[h.1];exact (yP.mp h2).1
 exact⟨vs[i],yR hl,h.2 i k z _ h1 h2 (yR hl)⟩
theorem Xq.one {k:Kd}{a:List Nat}(h:Xq C [k] [a] vs H):∃ v,vs=[v]/\ThV C k a v H:=by
 obtain⟨v,e,g⟩:=h.get (i:=0) rfl rfl
 match vs,h.1,e with
 | [x],_,e=>cases e;exact⟨_,Z,g⟩
theorem Xq.two {k k':Kd}{a b:List Nat}(h:Xq C [k,k'] [a,b] vs H):∃ v v',vs=[v,v']/\ThV C k a v H/\ThV C k' b v' H:=by
 obtain⟨v,e,g⟩:=h.get (i:=0) rfl rfl;obtain⟨v',e',g'⟩:=h.get (i:=1) rfl rfl
 match vs,h.1,e,e' with
 | [x,y],_,e,e'=>cases e;cases e';exact⟨_,_,Z,g,g'⟩
theorem WD {ks':List Kd}{s:Str}(h:X1 w0=some ks)(e:txt w0=s)(g:Pd.lookup s=some ks'):ks=ks':=by
 unfold X1 at h;rw[e,g]at h;cases h;rfl
theorem Xq.six {k0 k1 k2 k3 k4 k5:Kd}{a0 a1 a2 a3 a4 a5:List Nat}(h:Xq C [k0,k1,k2,k3,k4,k5] [a0,a1,a2,a3,a4,a5] vs H):∃ v0 v1 v2 v3 v4 v5,vs=[v0,v1,v2,v3,v4,v5]/\ThV C k0 a0 v0 H/\ThV C k1 a1 v1 H/\ThV C k2 a2 v2 H/\ThV C k3 a3 v3 H/\ThV C k4 a4 v4 H/\ThV C k5 a5 v5 H:=by
 obtain⟨v0,e0,g0⟩:=h.get (i:=0) rfl rfl;obtain⟨v1,e1,g1⟩:=h.get (i:=1) rfl rfl;obtain⟨v2,e2,g2⟩:=h.get (i:=2) rfl rfl;obtain⟨v3,e3,g3⟩:=h.get (i:=3) rfl rfl;obtain⟨v4,e4,g4⟩:=h.get (i:=4) rfl rfl;obtain⟨v5,e5,g5⟩:=h.get (i:=5) rfl rfl
 match vs,h.1,e0,e1,e2,e3,e4,e5 with
 | [x0,x1,x2,x3,x4,x5],_,e0,e1,e2,e3,e4,e5=>cases e0;cases e1;cases e2;cases e3;cases e4;cases e5;exact⟨_,_,_,_,_,_,Z,g0,g1,g2,g3,g4,g5⟩
theorem bt5 {b:Int}(h0:0<b)(h:b<1024):Bt 1000 b:=Bt.mono (n:=10) (by unfold Bt;lia) (by decide)
theorem DH (hd:Dsk C H d dx c e as)(h9:as.length<=900)(hc:ZV H c r u)(hS:ZW n r u)(hz:z.length<=100)(hB:VY n z k=true)(h1:k=1->as=[])(h7:k=7->n<=4/\∃ m,Tw n (r,u) m/\3<=m)
  (hE:k≠4->∀ H':Hp,Z8 H H'->E (.ref (cl5 CR CU CX CN CG CP CY CM k)) none H') (hE4:k=4->∀ (H':Hp) (dx:Addr),Z8 H H'->H' dx=some (.xd [("square",.int 1)])->E (.ref CG) (some dx) H'):Xf Cp CR C CU CX CN CG CP CY CM [.ref d,.str (txt z)] H Q E:=by
 unfold VY at hB;by_cases k0:k=0;rw[uK k0]at hB;have hR:Yc z=false:=by simpa using hB
 refine⟨d,dx,c,e,as,n,r,u,z,Z,hd,h9,hc,hS,hz,fun _=>?_,(fun q=>by rw[hR]at q;cases q)⟩;have:=hE (by lia);rw[k0]at this;exact this;rw[uL k0,yy]at hB;obtain⟨hR,hB⟩:=hB;refine⟨d,dx,c,e,as,n,r,u,z,Z,hd,h9,hc,hS,hz,(fun q=>by rw[hR]at q;cases q),fun _ H1 l w0 vs s1 hA hl=>?_⟩;obtain⟨ws,ks,e1,e2,e3,hV⟩:=hA;rw[e1]at hB;have gd:=hc.same s1;obtain⟨_,sm⟩:=QN z;rw[e1]at sm;have si:∀ (v0:V) (a b:List Nat) (Q':VK),ws=[a,b]->vs=[.str (txt a),.str (txt b)]->rdB k (a++[32]++b)=true->H1 l=some (.lst [v0,.str (txt a),.str (txt b)])->Yn CX CN CG [.ref l] H1 Q' E:=fun v0 a b Q' ew ev hb hl=>by
  have la:=sm a (by rw[ew];simp);have lb:=sm b (by rw[ew];simp);refine⟨l,v0,a,b,Z,hl,by lia,by lia,Bp (by simp;lia) hb (fun q H' s'=>?_) (fun q H' s'=>?_) fun q H' dx s' h=>hE4 q H' dx (s1.trans s') h⟩;have:=hE (by lia) H' (s1.trans s');rw[q]at this;exact this;have:=hE (by lia) H' (s1.trans s');rw[q]at this;exact this
 match ws,hB with
 | [],hB=>
  have hB:(decide (k=1)&&decide (txt w0="undo"))=true:=hB;rw[yy,uH,uH]at hB;have ea:=h1 hB.1;refine .inr (.inr (.inl ⟨hB.2,fun _=>?_,fun nq c' q=>?_⟩));have:=hE (by lia) H1 s1;rw[hB.1]at this;exact this;rw[ea]at q;simp at q
 | [m],hB=>
  have hB:(decide (k=7)&&decide (txt w0="reach")&&decide (Zw m=some 1\/Zw m=some 2))=true:=hB;rw[yy,yy,uH,uH,uH]at hB;obtain⟨⟨k7,ew⟩,hm⟩:=hB;obtain⟨n4,cn,hcn,c3⟩:=h7 k7;have:=WD e2 ew (ks':=[.most]) (by decide +kernel);subst this;obtain⟨v,rfl,x,hx,_,rfl⟩:=hV.one;have gF:x=1\/x=2:=by rcases hm with q|q<;>rw[q]at hx<;>cases hx<;>simp
  rw[ew]at hl ⊢;refine .inr (.inr (.inr ⟨by decide +kernel,by decide +kernel,fun Q'=>?_⟩));refine⟨c,l,_,_,r,u,Z,hl,gd,.inr (.inr (.inr ⟨Z,n,x.toNat,cn,?_,hS,n4,hcn,by lia,fun H' s'=>?_⟩))⟩;rw[wj (by lia)];have:=hE (by lia) H' (s1.trans s');rw[k7]at this;exact this
 | [a,b],hB=>
  have hB:(if txt w0="along" then decide (k=6)&&PQ a b else (decide (txt w0="sheet")||decide (txt w0="same")||decide (txt w0="over"))&&rdB k (a++[32]++b))=true:=hB;by_cases ew:txt w0="along";rw[uK ew,yy,uH]at hB;obtain⟨k6,hB⟩:=hB;have:=WD e2 ew (ks':=[.number,.number]) (by decide +kernel);subst this;obtain⟨v,v',rfl,⟨p,hp,_,rfl⟩,⟨q,hq,_,rfl⟩⟩:=hV.two;unfold PQ at hB;rw[hp,hq]at hB;have hB:(!decide (VZ p q))=true:=hB;rw[u3]at hB;rw[ew]at hl ⊢;refine .inr (.inr (.inr ⟨by decide +kernel,by decide +kernel,fun Q'=>?_⟩));refine⟨c,l,_,_,r,u,Z,hl,gd,.inl ⟨Z,p,q,Z,rS hB,fun H' s'=>?_⟩⟩;have:=hE (by lia) H' (s1.trans s');rw[k6]at this;exact this;rw[uL ew,yy,Bool.or_eq_true,Bool.or_eq_true,uH,uH,uH]at hB;obtain⟨hw,hB⟩:=hB;have ek:ks=[.text,.text]:=by
   rcases hw with (q|q)|q;exact WD e2 q (by decide +kernel);exact WD e2 q (by decide +kernel);exact WD e2 q (by decide +kernel)
  subst ek;obtain⟨v,v',rfl,h5,h6⟩:=hV.two;have h5:v=.str (txt a):=h5;have h6:v'=.str (txt b):=h6;subst h5 h6;rcases hw with (q|q)|q;exact .inr (.inl ⟨q,si _ a b _ rfl rfl hB hl⟩);rw[q]at hl ⊢;exact .inr (.inr (.inr ⟨by decide +kernel,by decide +kernel,fun Q'=>⟨c,l,_,_,r,u,rfl,hl,gd,.inr (.inr (.inl ⟨.inl rfl,si _ a b _ rfl rfl hB hl⟩))⟩⟩));rw[q]at hl ⊢;exact .inr (.inr (.inr ⟨by decide +kernel,by decide +kernel,fun Q'=>⟨c,l,_,_,r,u,rfl,hl,gd,.inr (.inr (.inl ⟨.inr rfl,si _ a b _ rfl rfl hB hl⟩))⟩⟩))
 | [sq,x,y,p,q,s],hB=>
  have hB:(decide (txt w0="walk")&&OK n k sq x y p q)=true:=hB;rw[yy,uH]at hB;obtain⟨ew,hB⟩:=hB;have:=WD e2 ew (ks':=[.square,.part,.part,.number,.number,.steps]) (by decide +kernel);subst this;obtain⟨v0,v1,v2,v3,v4,v5,rfl,⟨i,hi,rfl⟩,⟨tx,bx,ax,hx,rfl,px⟩,⟨ty,oV,ay,hy,rfl,py⟩,⟨p',hp,_,rfl⟩,⟨q',hq,_,rfl⟩,⟨s',hs,_,rfl⟩⟩:=hV.six;unfold OK at hB;rw[hi,hx,hy,hp,hq]at hB;have hB:(decide (0<bx/\bx<1024/\0<oV/\oV<1024)&&(if i<n/\tx/bx=0/\ty/oV=0 then decide (k=6) && !decide (Way p' q') else decide (k=5)))=true:=hB;rw[yy,uH]at hB;obtain⟨⟨x0,x9,y0,y9⟩,hB⟩:=hB;rw[ew]at hl ⊢;refine .inr (.inr (.inr ⟨by decide +kernel,by decide +kernel,fun Q'=>?_⟩));refine⟨c,l,_,_,r,u,Z,hl,gd,.inr (.inl ⟨Z,(i:Int),ax,ay,tx,bx,ty,oV,p',q',s',Z,px,py,x0,y0,bt5 x0 x9,bt5 y0 y9,fun g=>?_,fun g H' s'=>?_⟩)⟩;rw[hS.row.len]at g;rw[uK ⟨by lia,g.2.2⟩,yy,uH]at hB;refine⟨by simpa using hB.2,fun H' s'=>?_⟩;have:=hE (by lia) H' (s1.trans s');rw[hB.1]at this;exact this;rw[hS.row.len]at g;rw[uL (fun q=>g ⟨by lia,by lia,q.2⟩),uH]at hB;have:=hE (by lia) H' (s1.trans s');rw[hB]at this;exact this
 | [_,_,_],hB=>exact nomatch hB
 | [_,_,_,_],hB=>exact nomatch hB
 | [_,_,_,_,_],hB=>exact nomatch hB
 | _::_::_::_::_::_::_::_,hB=>exact nomatch hB
noncomputable def byS (s:Str):List Nat:=s.cps.toList
theorem XA (s:Str):txt (byS s)=s:=RP s
theorem Hh (hd:Dsk C H d dx c e as)(h9:as.length<=900)(hc:ZV H c r u)(hS:ZW n r u)
  (k:∀ (H':Hp) (b l:Addr),Frm d e H H'->Dsk C H' d dx b e (as++[c])->ZV H' b sh3.1 sh3.2->Q (.ref l) H'):Xf Cp CR C CU CX CN CG CP CY CM [.ref d,.str (uU "sheet 102 210")] H Q E:=by
 have hR:Yc (byS (uU "sheet 102 210"))=true:=by decide +kernel
 have hs:spf (byS (uU "sheet 102 210"))=[byS (uU "sheet"),byS (uU "102"),byS (uU "210")]:=by decide +kernel
 refine⟨d,dx,c,e,as,n,r,u,byS (uU "sheet 102 210"),by rw[XA],hd,h9,hc,hS,by decide +kernel,(fun q=>by rw[hR]at q;cases q),fun _ H1 l w0 vs s1 hA hl=>?_⟩;obtain⟨ws,ks,e1,e2,e3,hV⟩:=hA;rw[hs]at e1;injection e1 with q1 q2
 subst q1 q2;have:=WD e2 (XA _) (ks':=[.text,.text]) (by decide +kernel);subst this;obtain⟨v,v',rfl,h5,h6⟩:=hV.two;have h5:v=.str (txt (byS (uU "102"))):=h5;have h6:v'=.str (txt (byS (uU "210"))):=h6;subst h5 h6;refine .inr (.inl ⟨XA _,l,_,_,_,rfl,hl,by decide +kernel,by decide +kernel,?_⟩);exact Lu UL (by decide +kernel) (by decide +kernel) (by decide +kernel) fun H2 b s2 hb=>⟨b,3,_,_,rfl,s2,hb,UL,fun H' l' f d' s' _=>k H' b l' f d' s'⟩
noncomputable def VQ (kd:Nat):Str:=if kd=0 then "shear " else "turn "
noncomputable def wdD (kd:Nat):Str:=if kd=0 then "shear" else "turn"
noncomputable def Q9 (kd:Nat)(m:Int):Bool:=Yc (byS (VQ kd)++dg m)&&decide (spf (byS (VQ kd)++dg m)=[byS (wdD kd),dg m])&&decide (Zw (dg m)=some m)&&decide ((byS (VQ kd)++dg m).length<=100)
theorem EA:((yI 2).all fun kd=>(yI 19).all fun i=>Q9 kd ((i:Int)-9))=true:=by decide +kernel
theorem Li (h:kd<2)(h1:-9<=m)(h2:m<=9):Q9 kd m=true:=by
 have:=yn.mp (yn.mp EA kd (yL.mpr h)) (m+9).toNat (yL.mpr (by lia));rwa [show (((m+9).toNat:Nat):Int)-9=m by lia]at this
theorem M0 (h2:kd<2)(m1:-9<=m)(m2:m<=9)(hd:Dsk C H d dx c e as)(h9:as.length<=900)(hc:ZV H c r u)(hS:ZW n r u)
  (k:∀ (H':Hp) (b l:Addr),Frm d e H H'->Dsk C H' d dx b e (as++[c])->ZV H' b (dd n kd m (r,u)).1 (dd n kd m (r,u)).2->Q (.ref l) H'):Xf Cp CR C CU CX CN CG CP CY CM [.ref d,.str (VQ kd++uU (toString m))] H Q E:=by
 have hC:=Li h2 m1 m2;unfold Q9 at hC;rw[yy,yy,yy,uH,uH,uH]at hC;obtain⟨⟨⟨hR,hs⟩,hn⟩,hz⟩:=hC;refine⟨d,dx,c,e,as,n,r,u,byS (VQ kd)++dg m,by rw[<-Yh,XA,Pl],hd,h9,hc,hS,hz,(fun q=>by rw[hR]at q;cases q),fun _ H1 l w0 vs s1 hA hl=>?_⟩;obtain⟨ws,ks,e1,e2,e3,hV⟩:=hA;rw[hs]at e1;injection e1 with q1 q2
 subst q1 q2;have hk:ks=[.number]:=WD e2 (XA _) (by match kd,h2 with
  | 0,_=>decide +kernel
  | 1,_=>decide +kernel)
 subst hk;obtain⟨v,rfl,x,hx,_,rfl⟩:=hV.one;rw[hn]at hx;cases hx;refine .inl ⟨kd,m,?_,fun H' b l' f d' s' _=>k H' b l' f d' s'⟩;rw[XA]
 match kd,h2 with
 | 0,_=>exact .inl ⟨rfl,rfl⟩
 | 1,_=>exact .inr ⟨rfl,rfl⟩
theorem Fe {c':Addr}{n':Nat}{r' u':List Nat}(hd:Dsk C H d dx c e (as++[c']))(h9:(as++[c']).length<=900)(hc:ZV H c r u)(hS:ZW n r u)(mG:ZV H c' r' u')(jn:ZW n' r' u')
  (k:∀ (H':Hp) (l:Addr),Frm d e H H'->Dsk C H' d dx c' e as->Q (.ref l) H'):Xf Cp CR C CU CX CN CG CP CY CM [.ref d,.str (uU "undo")] H Q E:=by
 have hR:Yc (byS (uU "undo"))=true:=by decide +kernel
 have hs:spf (byS (uU "undo"))=[byS (uU "undo")]:=by decide +kernel
 refine⟨d,dx,c,e,_,n,r,u,byS (uU "undo"),by rw[XA],hd,h9,hc,hS,by decide +kernel,(fun q=>by rw[hR]at q;cases q),fun _ H1 l w0 vs s1 hA hl=>?_⟩;obtain⟨ws,ks,e1,e2,e3,hV⟩:=hA;rw[hs]at e1;injection e1 with q1 q2
 subst q1 q2;refine .inr (.inr (.inl ⟨XA _,fun q=>by simp at q,fun nq c2 q=>?_⟩));have q3:=vo q (by have:=tX wB q;simp at this;lia);obtain⟨rfl,q4⟩:=q3;cases q4;exact⟨n',r',u',mG,jn,fun H' l' f d' _=>k H' l' f d'⟩
noncomputable def stv (l:List Str):List V:=l.map V.str
noncomputable def nr0:List Str:=[""," ","undo 1","undo "," undo","Undo","undone","sheet","sheet 10","sheet 10 10 10","sheet  10 01"]
noncomputable def nr1:List Str:=["sheet 10 01 ","shear","shear 1000","shear 01","shear -0","shear +1","shear 1.5","shear --1"]
noncomputable def nr2:List Str:=["shear 1 1","shear -","turn","turn a","turn 0002","turn -007","turn 1 ","mirror","mirror left"]
noncomputable def nr3:List Str:=["mirror across up","mirrors up","mirror  up","form 1","forms","turns 0","counts a","bands 1 0"]
noncomputable def nr4:List Str:=["band","along","along 1","along 1 0 0","along 1 x","along 1 00","along 1 -0","draw 1","Draw"]
noncomputable def nr5:List Str:=["walk","walk 0 0 0 1 0","walk 0 0 0 1 0 61","walk 0 0 0 1 0 -1","walk 0 0 0 1 0 1 1"]
noncomputable def nr6:List Str:=["walk 0 2/4 0 1 0 1","walk 0 1/1 0 1 0 1","walk 0 0 0/2 1 0 1","walk 0 1/0 0 1 0 1"]
noncomputable def nr7:List Str:=["walk A 0 0 1 0 1","walk 00 0 0 1 0 1","walk 0 1/-2 0 1 0 1","walk 0 1/2/3 0 1 0 1"]
noncomputable def nr8:List Str:=["walk 0 /2 0 1 0 1","walk 0 1/ 0 1 0 1","walk 0 0 -0 1 0 1","walk 0 0 1/1000 1 0 1"]
noncomputable def nr9:List Str:=["walk 0 0 0 1000 0 1","walk 0 0 0 1 0 01","walk 0 0.5 0 1 0 1","walk 0 -2/4 0 1 0 1"]
noncomputable def nr10:List Str:=["reach","reach 0","reach 201","reach -1","reach 1 2","reach x","same","same 0","same 0 0 0"]
noncomputable def nr11:List Str:=["over","over 0","over 0 0 0","fold 0 0","0 0","102 210","sheet 0  0","walk - 0 0 1 0 1"]
noncomputable def nr12:List Str:=["walk z 0 0 1 0 61","walk z 2/4 0 0 0 1","walk 0 1 0 0 0 99","along 2 4 1","sheet 00 01 1"]
noncomputable def nrs:List Str:=((((((((((((nr0++nr1)++nr2)++nr3)++nr4)++nr5)++nr6)++nr7)++nr8)++nr9)++nr10)++nr11)++nr12)
def O0:Sp:=fun vs H Q _=>vs=[]/\∀ (H':Hp) (l:Addr),Z8 H H'->H' l=some (.lst (stv nrs))->Q (.ref l) H'
def Giv (te:TE)(s:Str):Prop:=∀ (σ:St) (H:Hp) (Q:VK),Q (.str s) H->te σ H Q
noncomputable def tPr:List (TE×Str×Int)->TA
 | []=>ZG
 | p::l=>ZL (Tx (ZL p.1 (ZL (tC (.int p.2.2)) ZG))) (tPr l)
def Gvs:List (TE×Str×Int)->Prop
 | []=>True
 | p::l=>Giv p.1 p.2.1/\Gvs l
def PL (H:Hp):List V->List (Str×Int)->Prop
 | [],[]=>True
 | x::xs,p::ps=>(∃ a,x=.ref a/\H a=some (.tup [.str p.1,.int p.2]))/\PL H xs ps
 | _,_=>False
theorem PL.same {H H':Hp}:∀ {xs:List V} {ps:List (Str×Int)},PL H xs ps->Z8 H H'->PL H' xs ps
 | [],[],_,_=>trivial
 | x::xs,p::ps,h,s=>⟨let ⟨a,e,g⟩:=h.1;⟨a,e,s _ _ g⟩,PL.same h.2 s⟩
theorem PL.app {H:Hp}:∀ {xs ys:List V} {ps qs:List (Str×Int)},PL H xs ps->PL H ys qs->PL H (xs++ys) (ps++qs)
 | [],_,[],_,_,h=>h
 | x::xs,_,p::ps,_,h,g=>⟨h.1,PL.app h.2 g⟩
theorem PL.len {H:Hp}:∀ {xs:List V} {ps:List (Str×Int)},PL H xs ps->xs.length=ps.length
 | [],[],_=>rfl
 | x::xs,p::ps,h=>by rw[yi,yi,PL.len h.2]
theorem PL.get {H:Hp}:∀ {xs:List V} {ps:List (Str×Int)} {i:Nat} {p:Str×Int},PL H xs ps->ps[i]?=some p->∃ a,xs[i]?=some (.ref a)/\H a=some (.tup [.str p.1,.int p.2])
 | x::xs,p::ps,0,q,h,e=>by
  obtain⟨a,rfl,g⟩:=h.1;cases e;exact⟨a,Z,g⟩
 | [],[],_,_,_,e=>by simp at e
 | x::xs,p::ps,i+1,q,h,e=>by simpa using PL.get h.2 (i:=i) (p:=q) (by simpa using e)
theorem LM:∀ (l:List (TE×Str×Int)) {σ:St} {H:Hp} {Q:List V->Hp->Prop},Gvs l->(∀ (H':Hp) (xs:List V),Z8 H H'->PL H' xs (l.map (·.2))->Q xs H')->tPr l σ H Q
 | [],σ,H,Q,_,k=>k H [] (Z8.refl H) trivial
 | p::l,σ,H,Q,g,k=>by
  refine g.1 σ H _ ?_;refine⟨by show 2<=uR;decide,fun a ha=>?_⟩;refine LM l g.2 fun H' xs s' hx=>?_;have s1:=ZY (o:=.tup [.str p.2.1,.int p.2.2]) (Z8.refl H) ha;exact k H' (.ref a::xs) (s1.trans s') ⟨⟨a,rfl,s' _ _ Z0⟩,hx⟩
variable{l:List (TE×Str×Int)}
theorem RK (g:Gvs l)(hl:l.length<=1000)(k:∀ (H':Hp) (d:Addr) (xs:List V),Z8 H H'->H' d=some (.lst xs)->PL H' xs (l.map (·.2))->Q (.ref d) H'):VP (tPr l) σ H Q:=by
 refine LM l g fun H1 xs s1 hx=>?_;have big:1000<=uR:=by decide
 refine⟨by rw[hx.len,yK];lia,fun d hd=>?_⟩;have s2:=ZY (o:=.lst xs) (Z8.refl H1) hd;exact k _ d xs (s1.trans s2) Z0 (hx.same s2)
noncomputable def fa0:List (Str×Int):=[("sheet 01 0",2),("sheet A A",2),("sheet 0# 01",2),("sheet 1000000000000000000000000000000000000 0000000000000000000000000000000000000",2)]
noncomputable def fa1:List (Str×Int):=[("same 01 0",2),("same 10 1-",2),("over 012 01",2),("over 0 !",2),("sheet 00 0A",2)]
noncomputable def fa2:List (Str×Int):=[("sheet 00 01",3),("sheet 02 01",3),("sheet 10 11",3),("sheet 1 1",3),("same 00 01",3)]
noncomputable def fa3:List (Str×Int):=[("same 0123 012z",3),("over 11 10",3),("over 012 121",3)]
noncomputable def fa4:List (Str×Int):=[("sheet 01 01",4),("same 01 01",4),("over 01 01",4)]
noncomputable def fa5:List (Str×Int):=[("walk z 0 0 1 0 1",5),("walk 3 0 0 1 0 1",5),("walk 0 1 0 1 0 1",5),("walk 0 0 -1/2 1 0 1",5)]
noncomputable def fa6:List (Str×Int):=[("walk 0 0 3/2 1 0 1",5),("walk 0 -1 0 1 0 0",5),("walk z 0 0 0 0 1",5),("walk 0 999 0 61 0 1",5)]
noncomputable def fa7:List (Str×Int):=[("walk 0 0 0 0 0 1",6),("walk 0 0 0 61 0 1",6),("walk 0 0 0 0 -61 0",6),("along 0 0",6)]
noncomputable def fa8:List (Str×Int):=[("along 2 4",6),("along 61 1",6),("along 0 2",6),("along -3 0",6),("along 999 -999",6)]
noncomputable def fas:List (Str×Int):=((((((((fa0++fa1)++fa2)++fa3)++fa4)++fa5)++fa6)++fa7)++fa8)
def J9:Sp:=fun vs H Q _=>vs=[]/\∀ (H':Hp) (l:Addr) (xs:List V),Z8 H H'->H' l=some (.lst xs)->PL H' xs fas->Q (.ref l) H'
def te1:TE:=(tOp (fun x y H Q=>∃ i j,x=.str i/\y=.str j/\i.length+j.length<=uR/\Q (.str (i++j)) H) (tOp (fun x y H Q=>∃ i j,x=.str i/\y=.str j/\i.length+j.length<=uR/\Q (.str (i++j)) H) (tOp (fun x y H Q=>∃ i j,x=.str i/\y=.str j/\i.length+j.length<=uR/\Q (.str (i++j)) H) (tC (.str (uU "sheet 1"))) (tOp (fun x y H Q=>∃ (z:Str) (n:Nat),x=.str z/\y=.int (n:Int)/\2<=n/\n<=1000/\z.length<=1000/\Q (.str (XR z n)) H) (tC (.str (uU "0"))) (tC (.int 36)))) (tC (.str (uU " ")))) (tOp (fun x y H Q=>∃ (z:Str) (n:Nat),x=.str z/\y=.int (n:Int)/\2<=n/\n<=1000/\z.length<=1000/\Q (.str (XR z n)) H) (tC (.str (uU "0"))) (tC (.int 37))))
def te2:TE:=(tOp (fun x y H Q=>∃ i j,x=.str i/\y=.str j/\i.length+j.length<=uR/\Q (.str (i++j)) H) (tSl rSlS (tC (.str (uU "over 012 120"))) Qi (Pf (tC (.int 11)))) (tC (.str (uU "1"))))
theorem giv1:Giv te1 "sheet 1000000000000000000000000000000000000 0000000000000000000000000000000000000":=by
 intro σ H Q q;have big:1000<=uR:=by decide
 refine⟨_,36,Z,Z,by decide,by decide,by decide +kernel,_,_,Z,Z,by decide +kernel,_,_,Z,Z,by decide +kernel,_,37,Z,Z,by decide,by decide,by decide +kernel,_,_,Z,Z,by decide +kernel,?_⟩;rw[show (uU "sheet 1"++XR (uU "0") 36++uU " "++XR (uU "0") 37:Str)=uU "sheet 1000000000000000000000000000000000000 0000000000000000000000000000000000000" from by decide +kernel];exact q
theorem giv2:Giv te2 "over 012 121":=by
 intro σ H Q q;refine⟨11,Z,_,Z,by decide +kernel,_,_,Z,Z,by decide +kernel,?_⟩;rw[show (qu (uU "over 012 120") none (some 11)++uU "1":Str)=uU "over 012 121" from by decide +kernel];exact q
noncomputable abbrev fi0:List (TE×Str×Int):=[(tC (.str "sheet 01 0"),"sheet 01 0",2),(tC (.str "sheet A A"),"sheet A A",2),(tC (.str "sheet 0# 01"),"sheet 0# 01",2),(te1,"sheet 1000000000000000000000000000000000000 0000000000000000000000000000000000000",2)]
theorem fg0:Gvs fi0:=⟨(fun _ _ _ q=>q),(fun _ _ _ q=>q),(fun _ _ _ q=>q),giv1,trivial⟩
noncomputable abbrev fi3:List (TE×Str×Int):=[(tC (.str "same 0123 012z"),"same 0123 012z",3),(tC (.str "over 11 10"),"over 11 10",3),(te2,"over 012 121",3)]
theorem fg3:Gvs fi3:=⟨(fun _ _ _ q=>q),(fun _ _ _ q=>q),giv2,trivial⟩
noncomputable def WA (ns:List Int)(k:Nat):Int:=ns.getD k 0
def Ju (K:yS):Sp:=fun vs H Q _=>∃ (a:Addr) (ns:List Int) (k:Nat),vs=[.ref a,.int (k:Int)]/\SqL K H a (ns.map V.int)/\Q (.int (WA ns k)) H
noncomputable def YQ:List Str->TA
 | []=>ZG
 | s::l=>ZL (tC (.str s)) (YQ l)
theorem MD:∀ (l:List Str) {σ:St} {H:Hp} {Q:List V->Hp->Prop},Q (stv l) H->YQ l σ H Q
 | [],_,_,_,k=>k
 | s::l,σ,H,Q,k=>MD l (Q:=fun xs H2=>Q (.str s::xs) H2) k
theorem LJ {l:List Str}(hl:l.length<=1000)(k:∀ (H':Hp) (d:Addr),Z8 H H'->H' d=some (.lst (stv l))->Q (.ref d) H'):VP (YQ l) σ H Q:=by
 refine MD l ?_;have big:1000<=uR:=by decide
 refine⟨by unfold stv;rw[yK];lia,fun d hd=>?_⟩;exact k _ d (ZY (Z8.refl H) hd) Z0
noncomputable def Pb:Expr->Bool
 | .Constant (.str _) _ _=>true
 | _=>false
noncomputable def zm:Expr->Str
 | .Constant (.str s) _ _=>s
 | _=>tu
noncomputable def OD:Expr->Bool
 | .Tuple [.Constant (.str _) _ _,.Constant (.int _) _ _] _ _=>true
 | _=>false
noncomputable def prOf:Expr->TE×Str×Int
 | .Tuple [.Constant (.str s) _ _,.Constant (.int k) _ _] _ _=>(tC (.str s),s,k)
 | _=>(tC .non,tu,0)
theorem E5 {e:Expr}(h:Pb e=true):∃ s j pos,e=.Constant (.str s) j pos:=by
 unfold Pb at h;split at h;exact⟨_,_,_,Z⟩;cases h
theorem Eb {e:Expr}(h:OD e=true):∃ s j pos k j2 c5 x c6,e=.Tuple [.Constant (.str s) j pos,.Constant (.int k) j2 c5] x c6:=by
 unfold OD at h;split at h;exact⟨_,_,_,_,_,_,_,_,Z⟩;cases h
theorem Yr {X:Cx}:∀ (es:List Expr),es.all Pb=true->PA X es (YQ (es.map zm))
 | [],_=>Z7
 | e::es,h=>by
  rw[vB,yy]at h;obtain⟨s,j,pos,rfl⟩:=E5 h.1;exact Z9 ZQ (Yr es h.2)
theorem WH {X:Cx}:∀ (es:List Expr),es.all OD=true->PA X es (tPr (es.map prOf))
 | [],_=>Z7
 | e::es,h=>by
  rw[vB,yy]at h;obtain⟨s,j,pos,k,j2,c5,x,c6,rfl⟩:=Eb h.1;exact Z9 (YV (Z9 ZQ (Z9 Z1 Z7))) (WH es h.2)
noncomputable def fm (l:List (Str×Int)):List (TE×Str×Int):=l.map fun p=>(tC (.str p.1),p.1,p.2)
theorem fmg:∀ (l:List (Str×Int)),Gvs (fm l)
 | []=>trivial
 | p::l=>⟨fun _ _ _ q=>q,fmg l⟩
structure PAw (X:Cx)(es:List Expr)(t:TA):Prop where
 h:PA X es t
structure PEw (X:Cx)(e:Expr)(t:TE):Prop where
 h:PE X e t
structure PSw (X:Cx)(e:Stmt)(t:L2.TS):Prop where
 h:PS X e t
structure PZw (X:Cx)(e:List Stmt)(t:L2.TS):Prop where
 h:PSs X e t
section
variable {es:List Expr}{e e':Expr}{t:TA}{te':TE}{ts us:L2.TS}{pos pos':Pos}{st:Stmt}{sts:List Stmt}
theorem Y6 (h:PAw X es t):PEw X (.List es pos) (VP t):=⟨YU h.h⟩
theorem V9 (h:PAw X es t):PEw X (.Tuple es k pos) (Tx t):=⟨YV h.h⟩
theorem Xd:PAw X [] ZG:=⟨Z7⟩
theorem Y5 (a:PEw X e te)(b:PAw X es t)(hs:uB (e::es) X.env=(false,eval e X.env)::uB es X.env:=by rfl):PAw X (e::es) (ZL te t):=⟨Z9 a.h b.h hs⟩
theorem Xu {x:Str}:PEw X (.Constant (.str x) j pos) (tC (.str x)):=⟨ZQ⟩
theorem Xa {x:Int}:PEw X (.Constant (.int x) j pos) (tC (.int x)):=⟨Z1⟩
theorem Zf {o:Operator}{r:R2}(h:OpR X (rh o) r)(a:PEw X e te)(b:PEw X e' te'):PEw X (.BinOp e o e' pos) (tOp r te te'):=⟨Zr h a.h b.h⟩
theorem Y3 {x:Str}(hN:X.N.Nodup)(hi:X.N[i]?=some x)(hx:X.env.scope.names.lookup x=some .local)(a:PEw X e te)(hs:rW e (some (.Name x pos')) pos.line X.env=pure false:=by rfl):PSw X (.Assign [.Name x pos'] e pos) (Yj te (ZO i)):=⟨PK hN hi (ug hx) a.h hs (Or.inr hx)⟩
theorem JJ (a:PEw X e te):PSw X (.Return (some e) pos) (Q3 te):=⟨ZR a.h⟩
theorem JA (a:PSw X st ts):PZw X [st] ts:=⟨Z3 a.h⟩
theorem Y2 (a:PSw X st ts)(b:PZw X sts us):PZw X (st::sts) (Yw ts us):=⟨Z4 a.h b.h⟩
end
theorem X6 {acc l:List Str}(hσ:σ[0]?=some (some (.ref d)))(g:H d=some (.lst (stv acc)))(hl:acc.length+l.length<=1000)(k:∀ (H':Hp) (b:Addr),Z8 H H'->H' b=some (.lst (stv (acc++l)))->Q (.ref b) H'):tOp Rb (ZN 0) (VP (YQ l)) σ H Q:=by
 have big:1000<=uR:=by decide
 refine⟨_,hσ,LJ (by lia) fun X e t q=>⟨d,e,_,_,Z,Z,t _ _ g,q,by unfold stv;rw[yK,yK];lia,fun b hb=>?_⟩⟩;have s:=ZY (o:=.lst (stv acc++stv l)) (Z8.refl X) hb;refine k _ b (t.trans s) ?_;rw[Z0];unfold stv;rw[ym]
theorem WE {ps:List (Str×Int)}(hσ:σ[0]?=some (some (.ref d)))(g:H d=some (.lst xs))(p:PL H xs ps)(hv:Gvs l)(hl:ps.length+l.length<=1000)(k:∀ (H':Hp) (b:Addr) (ys:List V),Z8 H H'->H' b=some (.lst ys)->PL H' ys (ps++l.map (·.2))->Q (.ref b) H'):tOp Rb (ZN 0) (VP (tPr l)) σ H Q:=by
 have big:1000<=uR:=by decide
 refine⟨_,hσ,RK hv (by lia) fun X e ys t q o=>?_⟩;have pq:=(p.same t).app o;have hn:=pq.len;rw[yJ,yJ,yK]at hn;refine⟨d,e,_,_,Z,Z,t _ _ g,q,by lia,fun b hb=>?_⟩;have s:=ZY (o:=.lst (xs++ys)) (Z8.refl X) hb;exact k _ b _ (t.trans s) Z0 (pq.same s)
theorem B7:ZT ["_law_script","_law_k"] ["_law_script","_law_k"] (Z2 SY):=fsc (by decide +kernel)
theorem Ca (T:Bi mg)(F:Fn K mg "_law_cell_at" SY ["_law_script","_law_k"] f fd):Z6 P w K mg base CX0 1 f fd ["_law_script","_law_k"] (Ju K):=by
 refine F.F.ok B7 (fun vs H Q E h=>?_) (fun pK A outer s H vs Q E hr h=>?_);obtain⟨a,ns,k,rfl,_⟩:=h;rfl;obtain⟨a,ns,k,rfl,ha,q⟩:=h;refine⟨_,Z4 (ZI (pq V0 (pv 1) (ZM Zj Z T.len uD (Z9 (pv 0) Z7))) (Z3 (ZR (pj ZF (pv 0) (pv 1)))) ZH) (Z3 (ZR Z1)),?_⟩;refine⟨_,Z,_,Z,a,_,Z,.inl ha,_,_,Z,Z,_,Z,?_⟩;rw[yK];unfold WA at q;by_cases c:k<ns.length;rw[uO (by lia)];refine ZP ?_;rw[show ns.getD k 0=ns[k] by simp[yG,c]]at q;exact⟨_,Z,_,Z,a,_,_,_,Z,Z,ha,ZU (j:=k) (by rw[yw,yR c];rfl),q⟩;rw[uJ (by lia)];refine ZZ ?_;rw[show ns.getD k 0=0 by rw[yG,xO (by lia)];rfl]at q;exact q
theorem Yf:ZT ["_law_m"] [] (Z2 Sx):=fsc (by decide +kernel)
set_option maxHeartbeats 400000 in
theorem Bf (F:Fn K mg "_law_no_rows" Sx [] f fd):Z6 P w K mg base CX0 1 f fd [] O0:=by
 refine F.F.ok Yf (fun vs H Q E h=>?_) (fun pK A outer s H vs Q E hr h=>?_);obtain⟨rfl,_⟩:=h;rfl;obtain⟨rfl,q⟩:=h;have big:1000<=uR:=by decide
 refine⟨_,@PZw.h _ _ _ (Y2 (Y3 (i:=0) Yf.nd Z Z (Y6 (t:=YQ nr0) ⟨@Yr _ _ Z⟩))
  (Y2 (Y3 (i:=0) Yf.nd Z Z (Zf Zg ⟨pv 0⟩ (Y6 (t:=YQ nr1) ⟨@Yr _ _ Z⟩)))
  (Y2 (Y3 (i:=0) Yf.nd Z Z (Zf Zg ⟨pv 0⟩ (Y6 (t:=YQ nr2) ⟨@Yr _ _ Z⟩)))
  (Y2 (Y3 (i:=0) Yf.nd Z Z (Zf Zg ⟨pv 0⟩ (Y6 (t:=YQ nr3) ⟨@Yr _ _ Z⟩)))
  (Y2 (Y3 (i:=0) Yf.nd Z Z (Zf Zg ⟨pv 0⟩ (Y6 (t:=YQ nr4) ⟨@Yr _ _ Z⟩)))
  (Y2 (Y3 (i:=0) Yf.nd Z Z (Zf Zg ⟨pv 0⟩ (Y6 (t:=YQ nr5) ⟨@Yr _ _ Z⟩)))
  (Y2 (Y3 (i:=0) Yf.nd Z Z (Zf Zg ⟨pv 0⟩ (Y6 (t:=YQ nr6) ⟨@Yr _ _ Z⟩)))
  (Y2 (Y3 (i:=0) Yf.nd Z Z (Zf Zg ⟨pv 0⟩ (Y6 (t:=YQ nr7) ⟨@Yr _ _ Z⟩)))
  (Y2 (Y3 (i:=0) Yf.nd Z Z (Zf Zg ⟨pv 0⟩ (Y6 (t:=YQ nr8) ⟨@Yr _ _ Z⟩)))
  (Y2 (Y3 (i:=0) Yf.nd Z Z (Zf Zg ⟨pv 0⟩ (Y6 (t:=YQ nr9) ⟨@Yr _ _ Z⟩)))
  (Y2 (Y3 (i:=0) Yf.nd Z Z (Zf Zg ⟨pv 0⟩ (Y6 (t:=YQ nr10) ⟨@Yr _ _ Z⟩)))
  (Y2 (Y3 (i:=0) Yf.nd Z Z (Zf Zg ⟨pv 0⟩ (Y6 (t:=YQ nr11) ⟨@Yr _ _ Z⟩)))
  (JA (JJ (Zf Zg ⟨pv 0⟩ (Y6 (t:=YQ nr12) ⟨@Yr _ _ Z⟩)))))))))))))))),?_⟩
 dsimp only [Yw,Yj];refine LJ (by decide) fun H0 d0 s0 g0=>?_;dsimp only [ZO];refine X6 rfl g0 (by decide) fun H1 d1 s1 g1=>?_;dsimp only [ZO];refine X6 rfl g1 (by decide) fun H2 d2 s2 g2=>?_;dsimp only [ZO];refine X6 rfl g2 (by decide) fun H3 d3 s3 g3=>?_;dsimp only [ZO];refine X6 rfl g3 (by decide) fun H4 d4 s4 g4=>?_;dsimp only [ZO];refine X6 rfl g4 (by decide) fun H5 d5 s5 g5=>?_;dsimp only [ZO];refine X6 rfl g5 (by decide) fun H6 d6 s6 g6=>?_;dsimp only [ZO];refine X6 rfl g6 (by decide) fun H7 d7 s7 g7=>?_;dsimp only [ZO];refine X6 rfl g7 (by decide) fun H8 d8 s8 g8=>?_;dsimp only [ZO];refine X6 rfl g8 (by decide) fun H9 d9 s9 g9=>?_;dsimp only [ZO];refine X6 rfl g9 (by decide) fun kF d10 s10 g10=>?_;dsimp only [ZO];refine X6 rfl g10 (by decide) fun oX d11 jv g11=>?_;dsimp only [ZO];refine X6 rfl g11 (by decide) fun gV d12 mB g12=>?_;dsimp only [ZO];exact q _ d12 (s0.trans (s1.trans (s2.trans (s3.trans (s4.trans (s5.trans (s6.trans (s7.trans (s8.trans (s9.trans (s10.trans (jv.trans (mB))))))))))))) g12
theorem Xw:ZT ["_law_m"] [] (Z2 SX):=fsc (by decide +kernel)
set_option maxHeartbeats 400000 in
theorem CL (F:Fn K mg "_law_faults" SX [] f fd):Z6 P w K mg base CX0 1 f fd [] J9:=by
 refine F.F.ok Xw (fun vs H Q E h=>?_) (fun pK A outer s H vs Q E hr h=>?_);obtain⟨rfl,_⟩:=h;rfl;obtain⟨rfl,q⟩:=h;have big:1000<=uR:=by decide
 refine⟨_,@PZw.h _ _ _ (Y2 (Y3 (i:=0) Xw.nd Z Z (Y6 (t:=tPr fi0) (Y5 (V9 (Y5 Xu (Y5 Xa Xd))) (Y5 (V9 (Y5 Xu (Y5 Xa Xd))) (Y5 (V9 (Y5 Xu (Y5 Xa Xd))) (Y5 (V9 (Y5 (Zf X8 (Zf X8 (Zf X8 Xu (Zf LV Xu Xa)) Xu) (Zf LV Xu Xa)) (Y5 Xa Xd))) Xd))))))
  (Y2 (Y3 (i:=0) Xw.nd Z Z (Zf Zg ⟨pv 0⟩ (Y6 (t:=tPr (fm fa1)) ⟨@WH _ _ Z⟩)))
  (Y2 (Y3 (i:=0) Xw.nd Z Z (Zf Zg ⟨pv 0⟩ (Y6 (t:=tPr (fm fa2)) ⟨@WH _ _ Z⟩)))
  (Y2 (Y3 (i:=0) Xw.nd Z Z (Zf Zg ⟨pv 0⟩ (Y6 (t:=tPr fi3) (Y5 (V9 (Y5 Xu (Y5 Xa Xd))) (Y5 (V9 (Y5 Xu (Y5 Xa Xd))) (Y5 (V9 (Y5 (Zf X8 ⟨SW KB ZQ Qc (Us Z1)⟩ Xu) (Y5 Xa Xd))) Xd))))))
  (Y2 (Y3 (i:=0) Xw.nd Z Z (Zf Zg ⟨pv 0⟩ (Y6 (t:=tPr (fm fa4)) ⟨@WH _ _ Z⟩)))
  (Y2 (Y3 (i:=0) Xw.nd Z Z (Zf Zg ⟨pv 0⟩ (Y6 (t:=tPr (fm fa5)) ⟨@WH _ _ Z⟩)))
  (Y2 (Y3 (i:=0) Xw.nd Z Z (Zf Zg ⟨pv 0⟩ (Y6 (t:=tPr (fm fa6)) ⟨@WH _ _ Z⟩)))
  (Y2 (Y3 (i:=0) Xw.nd Z Z (Zf Zg ⟨pv 0⟩ (Y6 (t:=tPr (fm fa7)) ⟨@WH _ _ Z⟩)))
  (Y2 (Y3 (i:=0) Xw.nd Z Z (Zf Zg ⟨pv 0⟩ (Y6 (t:=tPr (fm fa8)) ⟨@WH _ _ Z⟩)))
  (JA (JJ ⟨pv 0⟩))))))))))),?_⟩
 dsimp only [Yw,Yj];refine RK fg0 (by decide) fun H0 d0 x0 s0 g0 p0=>?_;dsimp only [ZO];have p0:PL H0 x0 fa0:=p0;refine WE rfl g0 p0 (fmg fa1) (by decide) fun H1 d1 x1 s1 g1 p1=>?_;dsimp only [ZO];rw[show (fm fa1).map (·.2)=fa1 from rfl]at p1;refine WE rfl g1 p1 (fmg fa2) (by decide) fun H2 d2 x2 s2 g2 p2=>?_;dsimp only [ZO];rw[show (fm fa2).map (·.2)=fa2 from rfl]at p2;refine WE rfl g2 p2 (fg3) (by decide) fun H3 d3 x3 s3 g3 p3=>?_;dsimp only [ZO];rw[show fi3.map (·.2)=fa3 from rfl]at p3;refine WE rfl g3 p3 (fmg fa4) (by decide) fun H4 d4 x4 s4 g4 p4=>?_;dsimp only [ZO];rw[show (fm fa4).map (·.2)=fa4 from rfl]at p4;refine WE rfl g4 p4 (fmg fa5) (by decide) fun H5 d5 x5 s5 g5 p5=>?_;dsimp only [ZO];rw[show (fm fa5).map (·.2)=fa5 from rfl]at p5;refine WE rfl g5 p5 (fmg fa6) (by decide) fun H6 d6 x6 s6 g6 p6=>?_;dsimp only [ZO];rw[show (fm fa6).map (·.2)=fa6 from rfl]at p6;refine WE rfl g6 p6 (fmg fa7) (by decide) fun H7 d7 x7 s7 g7 p7=>?_;dsimp only [ZO];rw[show (fm fa7).map (·.2)=fa7 from rfl]at p7;refine WE rfl g7 p7 (fmg fa8) (by decide) fun H8 d8 x8 s8 g8 p8=>?_;dsimp only [ZO];rw[show (fm fa8).map (·.2)=fa8 from rfl]at p8;exact⟨_,Z,q _ d8 x8 (s0.trans (s1.trans (s2.trans (s3.trans (s4.trans (s5.trans (s6.trans (s7.trans (s8))))))))) g8 p8⟩
noncomputable def TF (n:Nat)(p:Str×Int):Bool:=decide (0<=p.2/\p.2<8/\(p.2=1->n=1)/\(p.2=7->n=3)/\p.1.cps.toList.length<=100)&&VY n p.1.cps.toList p.2.toNat
noncomputable def Xt:List (Str×Int):=nrs.map (fun s=>(s,(0:Int)))++fas
noncomputable def Vc:List (Str×Int):=[("reach 1",7),("reach 2",7)]
noncomputable def RT:List (Str×Int):=[("undo",1),("walk 1 0 0 1 0 1",5)]
theorem all3:(Xt++Vc).all (TF 3)=true:=by decide +kernel
theorem all1:(Xt++RT).all (TF 1)=true:=by decide +kernel
theorem UX:(Xt++Vc).length=(Xt++RT).length/\1<=(Xt++Vc).length/\(Xt++Vc).length<=500:=by decide +kernel
theorem E6 {p:Str×Int}(h:TF n p=true):∃ (z:List Nat) (k:Nat),p.1=txt z/\p.2=(k:Int)/\k<8/\z.length<=100/\VY n z k=true/\(k=1->n=1)/\(k=7->n=3):=by
 unfold TF at h;rw[yy,uH]at h;obtain⟨⟨h0,h8,h1,h7,hl⟩,hB⟩:=h;exact⟨_,_,(RP _).symm,by omega,by omega,hl,hB,fun q=>h1 (by omega),fun q=>h7 (by omega)⟩
structure XA5 (mg:Str->Option uT)(ad:Nat->Addr):Prop where
 m0:mg "NoRow"=some (.ref (ad 0))
 m1:mg "NothingDone"=some (.ref (ad 1))
 m2:mg "NoText"=some (.ref (ad 2))
 m3:mg "NoSheet"=some (.ref (ad 3))
 m4:mg "NotTogether"=some (.ref (ad 4))
 m5:mg "NoPlace"=some (.ref (ad 5))
 m6:mg "NoWay"=some (.ref (ad 6))
 m7:mg "TooMany"=some (.ref (ad 7))
 m8:mg "NoDrawing"=some (.ref (ad 8))
 m9:mg "NoNumber"=some (.ref (ad 9))
 m10:mg "NoRenumbering"=some (.ref (ad 10))
 m11:mg "NoSquare"=some (.ref (ad 11))
 m12:mg "NoTable"=some (.ref (ad 12))
 m13:mg "NoWord"=some (.ref (ad 13))
 mV:mg "ValueError"=none
structure XM5 (K:yS)(ad:Nat->Addr)(D:Addr)(k:Nat):Prop where
 x:WX K D
 k0:yp K (.ref D) (.ref (ad 0))=some (decide (0=k))
 k1:yp K (.ref D) (.ref (ad 1))=some (decide (1=k))
 k2:yp K (.ref D) (.ref (ad 2))=some (decide (2=k))
 k3:yp K (.ref D) (.ref (ad 3))=some (decide (3=k))
 k4:yp K (.ref D) (.ref (ad 4))=some (decide (4=k))
 k5:yp K (.ref D) (.ref (ad 5))=some (decide (5=k))
 k6:yp K (.ref D) (.ref (ad 6))=some (decide (6=k))
 k7:yp K (.ref D) (.ref (ad 7))=some (decide (7=k))
 kV:yp K (.ref D) (.type "ValueError")=some true
 kO:u7 K (.ref D) ([ad 8,ad 9,ad 10,ad 11,ad 12,ad 13].map uI)=some false
def RB (K:yS)(ad:Nat->Addr)(eh:Addr):Sp:=fun vs H Q _=>∃ (D:Addr) (d:Option Addr) (k:Nat),vs=[.ref eh]/\XAt H eh D d/\XM5 K ad D k/\k<8/\∀ H':Hp,Z8 H H'->Q (.int (k:Int)) H'
noncomputable def mk8 (k:Nat):List Bool:=[decide (0=k),decide (1=k),decide (2=k),decide (3=k),decide (4=k),decide (5=k),decide (6=k),decide (7=k)]
theorem CQ (h:k<8):((mk8 k).map fun b=>if b then (1:Int) else 0).sum=1/\true∈mk8 k/\(mk8 k).idxOf true=k:=by
 match k,h with
 | 0,_|1,_|2,_|3,_|4,_|5,_|6,_|7,_=>decide
theorem UG {D:Addr}{d:Option Addr}(h:XAt H e D d)(s:Z8 H H'):XAt H' e D d:=⟨s _ _ h.1,fun dx z=>let ⟨fs,q⟩:=h.2 dx z;⟨fs,s _ _ q⟩⟩
def yT:List V->Hp->VK->Prop:=fun xs H Q=>(∃ i,xs=[.int i]/\Q (.int i) H)\/∃ k,xs=[.bl k]/\Q (.int (if k then 1 else 0)) H
def te5:TE:=tCB yT (ZL (ZN 0) ZG)
theorem ER {eh p:Addr}{bs:List Bool}(h1:σ[1]?=some (some (.ref p)))(hp:H p=some (.lst (bs.map V.bl)))(hx:∃ C d,H eh=some (exO eh C d))(hz:bs.length<=1000)(k:∀ (H':Hp) (d:Addr),Z8 H H'->H' d=some (.lst ((bs.map fun b=>if b then (1:Int) else 0).map V.int))->Q (.ref d) H') :
  K0 eh (Wx K (ZN 1)) 1 [] (ZO 0) te5 σ H Q:=by
 have big:1000<=uR:=by decide
 refine⟨_,h1,p,Z,⟨_,SqL.of hp⟩,fun d hd=>?_⟩;have hpd:p≠d:=fun z=>by rw[z,hd]at hp;cases hp
 obtain⟨C,de,hx⟩:=hx;have hxd:eh≠d:=fun z=>by rw[z,hd]at hx;cases hx
 refine⟨fun i m σ' H'=>i+m=bs.length/\(∃ o,σ'=[o])/\(∀ b o,b≠d->H b=some o->H' b=some o)/\H' d=some (.lst (((bs.take i).map fun b=>if b then (1:Int) else 0).map V.int)),⟨bs.length,by simp,⟨_,Z⟩,fun b o n e=>by rw[Z5 n];exact e,Z0⟩,?_⟩;rintro i m σ' H' ⟨im,⟨o,rfl⟩,fr,lY⟩;have gA:=fr _ _ hpd hp;by_cases c:i<bs.length;refine .inr ⟨⟨_,.bl bs[i],SqL.of gA,by rw[yw,yR c];rfl⟩,fun x H2 ⟨e2,gF⟩=>?_⟩;subst e2;have gF:=gF _ (SqL.of gA);rw[yw,yR c]at gF;cases gF;refine⟨_,Z,.inr ⟨_,Z,_,lY,by simp;lia,m-1,by lia,by lia,⟨_,Z⟩,fun b o n e=>by rw[Z5 n];exact fr b o n e,?_⟩⟩;have e:bs.take (i+1)=bs.take i++[bs[i]]:=by rw[xT,yR c];rfl
 rw[Z0,e,ym,ym];rfl;have ei:i=bs.length:=by lia
 subst ei;rw[xn]at lY;refine .inl ⟨⟨_,SqL.of gA,by simp⟩,⟨C,de,fr _ _ hxd hx⟩,k H' d (fun b o e=>?_) lY⟩;by_cases q:b=d;rw[q,hd]at e;cases e;exact fr b o q e
noncomputable abbrev JV:List Str:=["_law_error","_law_marks"]
theorem RC:ZT JV ["_law_error"] (Z2 Ud):=fsc (by decide +kernel)
theorem CH:(["_law_mark_here"]:List Str).Nodup:=by decide +kernel
variable{ad:Nat->Addr}
set_option maxHeartbeats 1000000 in
theorem Bj (T:Bi mg)(Tsum:mg "sum"=none)(C:XA5 mg ad)(F:Fn K mg "_law_mark" Ud ["_law_error"] f fd):Ri P w K mg base 1 f fd ["_law_error"] (RB K ad):=by
 refine F.F.okV RC (fun eh vs H Q E h=>?_) (fun eh pK A outer s H vs Q E hr hA h=>?_);obtain⟨D,d,k,rfl,_⟩:=h;rfl;obtain⟨D,d,k,rfl,hX,M,hk8,k5⟩:=h;have big:1000<=uR:=by decide
 refine⟨_,(Z4 (pz RC 1 (YU (Z9 (ZM Xo (by rfl) T.isin Yu (Z9 (pv 0) (Z9 (Zv (v:=.ref (ad 0)) (by rfl) C.m0 Z) Z7))) (Z9 (ZM Xo (by rfl) T.isin Yu (Z9 (pv 0) (Z9 (Zv (v:=.ref (ad 1)) (by rfl) C.m1 Z) Z7))) (Z9 (ZM Xo (by rfl) T.isin Yu (Z9 (pv 0) (Z9 (Zv (v:=.ref (ad 2)) (by rfl) C.m2 Z) Z7))) Z7)))))
  (Z4 (pz RC 1 (Zr Zg (pv 1) (YU (Z9 (ZM Xo (by rfl) T.isin Yu (Z9 (pv 0) (Z9 (Zv (v:=.ref (ad 3)) (by rfl) C.m3 Z) Z7))) (Z9 (ZM Xo (by rfl) T.isin Yu (Z9 (pv 0) (Z9 (Zv (v:=.ref (ad 4)) (by rfl) C.m4 Z) Z7))) (Z9 (ZM Xo (by rfl) T.isin Yu (Z9 (pv 0) (Z9 (Zv (v:=.ref (ad 5)) (by rfl) C.m5 Z) Z7))) Z7))))))
  (Z4 (pz RC 1 (Zr Zg (pv 1) (YU (Z9 (ZM Xo (by rfl) T.isin Yu (Z9 (pv 0) (Z9 (Zv (v:=.ref (ad 6)) (by rfl) C.m6 Z) Z7))) (Z9 (ZM Xo (by rfl) T.isin Yu (Z9 (pv 0) (Z9 (Zv (v:=.ref (ad 7)) (by rfl) C.m7 Z) Z7))) Z7)))))
  (Z4 (ZI (PW.pt (V6 (pq Xb (ZM (HP hA) Z Tsum Gf (Z9 (HB (eh:=eh) (N:=JV) (names:=(Z2 Ud).names) (N':=["_law_mark_here"]) (k:=1) (pull:=[]) (te:=te5) hA (bsc (by decide +kernel)) Z Z (Gb (pv 1)) (fun _ _ _ _ _ _=>Zy (i:=0) CH Z (ug Z)) (fun _ _ _ _ _ _=>Y0 Ht Z T.int SU (Z9 (pv 0) Z7))) Z7)) Z1) (Ug (Xv (Yo (ZM Xo (by rfl) T.isin Yu (Z9 (pv 0) (Z9 (Uo (v:=.ty "ValueError") (by rfl) C.mV Jo Z) Z7)))))))) XO ZH)
  (Z4 (ZI (Yo (ZM IV (by rfl) T.isin Yu (Z9 (pv 0) (Z9 (YV (Z9 (Zv (v:=.ref (ad 8)) (by rfl) C.m8 Z) (Z9 (Zv (v:=.ref (ad 9)) (by rfl) C.m9 Z) (Z9 (Zv (v:=.ref (ad 10)) (by rfl) C.m10 Z) (Z9 (Zv (v:=.ref (ad 11)) (by rfl) C.m11 Z) (Z9 (Zv (v:=.ref (ad 12)) (by rfl) C.m12 Z) (Z9 (Zv (v:=.ref (ad 13)) (by rfl) C.m13 Z) Z7))))))) Z7)))) XO ZH)
  (Z3 (ZR (Yz ud PySem.F.slot_list_index PySem.F.type_list_index HS (pv 1) (Z9 Wy Z7))))))))),?_⟩
 refine⟨_,Z,eh,_,D,d,_,_,Z,Z,hX,M.x,M.k0,?_⟩;refine⟨_,Z,eh,_,D,d,_,_,Z,Z,hX,M.x,M.k1,?_⟩;refine⟨_,Z,eh,_,D,d,_,_,Z,Z,hX,M.x,M.k2,?_⟩;refine⟨by show 3<=uR;lia,fun p1 fD=>?_⟩;dsimp only [ZO];have s1:=ZY (o:=.lst [V.bl (decide (0=k)),V.bl (decide (1=k)),V.bl (decide (2=k))]) (Z8.refl H) fD;have g1:(upd H p1 (.lst [V.bl (decide (0=k)),V.bl (decide (1=k)),V.bl (decide (2=k))])) p1=some (.lst [.bl (decide (0=k)),.bl (decide (1=k)),.bl (decide (2=k))]):=Z0;generalize upd H p1 (.lst [V.bl (decide (0=k)),V.bl (decide (1=k)),V.bl (decide (2=k))])=H1 at s1 g1;have hX1:=UG hX s1;refine⟨_,Z,?_⟩;refine⟨_,Z,eh,_,D,d,_,_,Z,Z,hX1,M.x,M.k3,?_⟩;refine⟨_,Z,eh,_,D,d,_,_,Z,Z,hX1,M.x,M.k4,?_⟩;refine⟨_,Z,eh,_,D,d,_,_,Z,Z,hX1,M.x,M.k5,?_⟩;refine⟨by show 3<=uR;lia,fun p2 jt=>?_⟩;have s2:=ZY (o:=.lst [V.bl (decide (3=k)),V.bl (decide (4=k)),V.bl (decide (5=k))]) (Z8.refl H1) jt;have g2:(upd H1 p2 (.lst [V.bl (decide (3=k)),V.bl (decide (4=k)),V.bl (decide (5=k))])) p2=some (.lst [.bl (decide (3=k)),.bl (decide (4=k)),.bl (decide (5=k))]):=Z0;generalize upd H1 p2 (.lst [V.bl (decide (3=k)),V.bl (decide (4=k)),V.bl (decide (5=k))])=H2 at s2 g2;refine⟨p1,p2,_,_,Z,Z,s2 _ _ g1,g2,by simp;lia,fun p3 j5=>?_⟩;dsimp only [ZO];have s3:=ZY (o:=.lst [V.bl (decide (0=k)),V.bl (decide (1=k)),V.bl (decide (2=k)),V.bl (decide (3=k)),V.bl (decide (4=k)),V.bl (decide (5=k))]) (Z8.refl H2) j5;have g3:(upd H2 p3 (.lst [V.bl (decide (0=k)),V.bl (decide (1=k)),V.bl (decide (2=k)),V.bl (decide (3=k)),V.bl (decide (4=k)),V.bl (decide (5=k))])) p3=some (.lst [.bl (decide (0=k)),.bl (decide (1=k)),.bl (decide (2=k)),.bl (decide (3=k)),.bl (decide (4=k)),.bl (decide (5=k))]):=Z0;refine (?_:_);show Yw _ _ _ _ (upd H2 p3 (.lst [V.bl (decide (0=k)),V.bl (decide (1=k)),V.bl (decide (2=k)),V.bl (decide (3=k)),V.bl (decide (4=k)),V.bl (decide (5=k))]));generalize upd H2 p3 (.lst [V.bl (decide (0=k)),V.bl (decide (1=k)),V.bl (decide (2=k)),V.bl (decide (3=k)),V.bl (decide (4=k)),V.bl (decide (5=k))])=H3 at s3 g3;have iH:=s1.trans (s2.trans s3);have hX3:=UG hX iH;refine⟨_,Z,?_⟩;refine⟨_,Z,eh,_,D,d,_,_,Z,Z,hX3,M.x,M.k6,?_⟩;refine⟨_,Z,eh,_,D,d,_,_,Z,Z,hX3,M.x,M.k7,?_⟩;refine⟨by show 2<=uR;lia,fun p4 hp4=>?_⟩;have s4:=ZY (o:=.lst [V.bl (decide (6=k)),V.bl (decide (7=k))]) (Z8.refl H3) hp4;have g4:(upd H3 p4 (.lst [V.bl (decide (6=k)),V.bl (decide (7=k))])) p4=some (.lst [.bl (decide (6=k)),.bl (decide (7=k))]):=Z0;generalize upd H3 p4 (.lst [V.bl (decide (6=k)),V.bl (decide (7=k))])=H4 at s4 g4;refine⟨p3,p4,_,_,Z,Z,s4 _ _ g3,g4,by simp;lia,fun p5 hp5=>?_⟩;dsimp only [ZO];have s5:=ZY (o:=.lst ((mk8 k).map V.bl)) (Z8.refl H4) hp5;have g5:(upd H4 p5 (.lst ((mk8 k).map V.bl))) p5=some (.lst ((mk8 k).map V.bl)):=Z0;show Yw _ _ _ _ (upd H4 p5 (.lst ((mk8 k).map V.bl)));generalize upd H4 p5 (.lst ((mk8 k).map V.bl))=H5 at s5 g5;have s15:=iH.trans (s4.trans s5);obtain⟨m1,m2,m3⟩:=CQ hk8;dsimp only [Yw,Q6,tOr,U8,tOp,tCB,ZL];refine ER (K:=K) (eh:=eh) (p:=p5) (bs:=mk8 k) (σ:=[some (.ref eh),some (.ref p5)]) (H:=H5) rfl g5 ⟨_,_,(UG hX s15).1⟩ (by show 8<=1000;decide) fun H6 d6 s6 g6=>?_;have s16:=s15.trans s6;have hX6:=UG hX s16;refine⟨d6,_,Z,SqL.of g6,⟨_,_,hX6.1⟩,?_⟩;rw[m1];refine⟨Z,_,Z,?_⟩;rw[show (!decide (V.int 1=V.int 1))=false from rfl];refine ZZ ?_;refine⟨_,Z,eh,_,D,d,_,_,Z,Z,hX6,M.x,M.kV,_,Z,?_⟩;refine ZZ ?_;refine⟨_,Z,by show 6<=uR;lia,fun tp i8=>?_⟩;have s7:=ZY (o:=.tup ([ad 8,ad 9,ad 10,ad 11,ad 12,ad 13].map V.ref)) (Z8.refl H6) i8;have g7:(upd H6 tp (.tup ([ad 8,ad 9,ad 10,ad 11,ad 12,ad 13].map V.ref))) tp=some (.tup ([ad 8,ad 9,ad 10,ad 11,ad 12,ad 13].map V.ref)):=Z0;refine⟨eh,tp,D,d,false,[ad 8,ad 9,ad 10,ad 11,ad 12,ad 13],Z,SqT.of g7,UG hX6 s7,M.x,M.kO,_,Z,?_⟩;refine ZZ ?_;refine⟨_,Z,.inl ⟨Z,_,SqL.of (s7 _ _ (s6 _ _ g5))⟩,p5,mk8 k,Z,Z,s7 _ _ (s6 _ _ g5),m2,?_⟩;rw[m3];exact k5 _ (s16.trans s7)
structure XC5 (K:yS)(mg:Str->Option uT)(SE:Addr)(ad:Nat->Addr):Prop where
 fS:Ze K SE
 fT:Ze K (ad 4)
 mS:mg "SheetError"=some (.ref SE)
 M:∀ k,k<8->XM5 K ad (ad k) k
 nt:∀ k,k<8->k≠4->xR K (.ref (ad k)) (.ref (ad 4))=some false
 tt:xR K (.ref (ad 4)) (.ref (ad 4))=some true
 ns:∀ k,k<8->xR K (.ref (ad k)) (.ref SE)=some true
 hd:xE K (ad 4)=true
 na:YG K (ad 4) "square"
def Jz (C:Addr):Sp:=fun vs H Q _=>∃ (d dx c e:Addr) (as:List Addr) (n k:Nat) (r u z:List Nat),vs=[.ref d,.str (txt z)]/\Dsk C H d dx c e as/\as.length<=900/\ZV H c r u/\ZW n r u/\z.length<=100/\VY n z k=true/\k<8/\(k=1->as=[])/\(k=7->n<=4/\∃ m,Tw n (r,u) m/\3<=m)/\∀ H':Hp,Z8 H H'->Q (.int (k:Int)) H'
theorem A1 (h:k<8):cl5 (ad 0) (ad 1) (ad 2) (ad 3) (ad 4) (ad 5) (ad 6) (ad 7) k=ad k:=by
 match k,h with
 | 0,_|1,_|2,_|3,_|4,_|5,_|6,_|7,_=>rfl
noncomputable abbrev y7:List Str:=["_law_desk","_law_row","_law_mark_here","_law_error"]
theorem Vd:ZT y7 ["_law_desk","_law_row"] (Z2 Uc):=fsc (by decide +kernel)
variable{CD:Addr}
set_option maxHeartbeats 1000000 in
theorem Cu {fm SE:Addr}(T:KTx K CD)(A5:XA5 mg ad)(C:XC5 K mg SE ad)(FSy:MFn K CD "say" "Desk.say" TY ["self","row"] fs ds)(GSy:Z6 P w K mg base (CX1 P w) 10 fs ds ["self","row"] (Xf Cp (ad 0) CD (ad 1) (ad 2) (ad 3) (ad 4) (ad 5) (ad 6) (ad 7)))
  (FM:Fn K mg "_law_mark" Ud ["_law_error"] fm dm) (GM:Ri P w K mg base 1 fm dm ["_law_error"] (RB K ad)) (F:Fn K mg "_law_told" Uc ["_law_desk","_law_row"] f fd):Z6 P w K mg base CX0 11 f fd ["_law_desk","_law_row"] (Jz CD):=by
 refine F.F.ok Vd (fun vs H Q E h=>?_) (fun pK A outer s H vs Q E hr h=>?_);obtain⟨d,dx,c,e,as,n,k,r,u,z,rfl,_⟩:=h;rfl;obtain⟨d,dx,c,e,as,n,k,r,u,z,rfl,hd,h9,hc,hS,hz,hB,hk,h1,h7,kQ⟩:=h;have hrU:∀ o,YD 1 ((A.deeper (PyProof.Rows.envOfC "_law_told" (Z2 Uc) s.heap.objs.size f pK)).mark o):=fun o=>(hr.u.mono (by decide)).mark o;refine⟨_,Z4 (pz Vd 2 AK)
  (Z4 (AO Z Z (fun E' σ' pn W hx=>Fd (Ez (pv 0) T.cl FSy.m GSy hr FSy.b .nil hx (Z9 (pv 1) Z7)))
   (JZ (j:=3) (ts:=fun e=>Yj (tIf (U8 (tOp rEq (J6 K (ZN 3) "square") (tC (.int 1)))) (YR (RB K ad e) [] E0 (ZL (ZN 3) ZG)) (tUn (rU fun i=>.int (-i)) (tC (.int 1)))) (ZO 2)) Z C.fT.h Z A5.m4 Vd.nd Z rfl
    (fun pn e=>Z3 (pz Vd 2 (M7 (pq Zz (Dp (pv 3) Z) Z1) (M3 Z GM (hrU _) Z FM.m FM.F.kp FM.b .nil (Z9 (pv 3) Z7)) (Va Vj Z1))))
   (JZ (j:=3) (ts:=fun e=>Yj (YR (RB K ad e) [] E0 (ZL (ZN 3) ZG)) (ZO 2)) Z C.fS.h Z C.mS Vd.nd Z rfl
    (fun pn e=>Z3 (pz Vd 2 (M3 Z GM (hrU _) Z FM.m FM.F.kp FM.b .nil (Z9 (pv 3) Z7)))) Cq)))
  (Z3 (ZR (pv 2)))),?_⟩
 refine⟨fun C' d' H'=>Z8 H H'/\((k≠4/\C'=.ref (ad k)/\d'=none)\/(k=4/\∃ ng,C'=.ref (ad 4)/\d'=some ng/\H' ng=some (.xd [("square",.int 1)]))),?_,?_⟩;have hs:∀ Q':VK,Xf Cp (ad 0) CD (ad 1) (ad 2) (ad 3) (ad 4) (ad 5) (ad 6) (ad 7) [.ref d,.str (txt z)] H Q' (fun C' d' H'=>Z8 H H'/\((k≠4/\C'=.ref (ad k)/\d'=none)\/(k=4/\∃ ng,C'=.ref (ad 4)/\d'=some ng/\H' ng=some (.xd [("square",.int 1)])))):=fun Q'=>
  DH hd h9 hc hS hz hB h1 h7 (fun k4 H' s'=>⟨s',.inl ⟨k4,by rw[A1 hk],rfl⟩⟩) fun k4 H' ng s' mx=>⟨s',.inr ⟨k4,ng,rfl,rfl,mx⟩⟩
 refine⟨_,Z,d,dx,_,Z,hd.at_,X3 (by decide +kernel) (by decide +kernel),_,Z,?_⟩;dsimp only [ZG,xf,wL];exact hs _;rintro C' d' H' ⟨sh,⟨k4,rfl,rfl⟩|⟨k4,ng,rfl,rfl,jX⟩⟩;refine⟨false,C.nt k hk k4,?_⟩;rw[uL (by decide)];refine⟨true,C.ns k hk,?_⟩;refine ZP ?_;intro ee he;have hE:(upd H' ee (exO ee (.ref (ad k)) none)) ee=some (exO ee (.ref (ad k)) none):=Z0;have s2:=sh.trans (ZY (o:=exO ee (.ref (ad k)) none) (Z8.refl _) he);generalize (upd H' ee (exO ee (.ref (ad k)) none))=H2 at hE s2;have hX:XAt H2 ee (ad k) none:=⟨hE,fun _ z=>by cases z⟩;refine⟨_,Z,ad k,none,k,Z,hX,C.M k hk,hk,fun H3 s3=>?_⟩;exact⟨_,Z,kQ H3 (s2.trans s3)⟩;refine⟨true,C.tt,?_⟩;refine ZP ?_;intro ee he;have ned:ng≠ee:=ZJ jX he;have hE:(upd H' ee (exO ee (.ref (ad 4)) (some ng))) ee=some (exO ee (.ref (ad 4)) (some ng)):=Z0;have hD:(upd H' ee (exO ee (.ref (ad 4)) (some ng))) ng=some (.xd [("square",.int 1)]):=by rw[Z5 ned];exact jX
 have s2:=sh.trans (ZY (o:=exO ee (.ref (ad 4)) (some ng)) (Z8.refl _) he);generalize (upd H' ee (exO ee (.ref (ad 4)) (some ng)))=H2 at hE s2 hD;have hX:XAt H2 ee (ad 4) (some ng):=⟨hE,fun dx z=>⟨_,by cases z;exact hD⟩⟩;refine⟨_,Z,ee,ad 4,ng,_,_,Z,hE,hD,(C.M 4 (by decide)).x,C.hd,C.na,Z,?_⟩;refine⟨Z,_,Z,?_⟩;rw[show decide (V.int 1=V.int 1)=true from rfl];refine ZP ?_;refine⟨_,Z,ad 4,some ng,4,Z,hX,C.M 4 (by decide),by decide,fun H3 s3=>?_⟩;subst k4;exact⟨_,Z,kQ H3 (s2.trans s3)⟩
theorem UH {t u:L2.TS}(Pv:St->Hp->Prop)(hr:∀ σ H,Pv σ H->u D σ H)(ht:∀ N:St->Hp->Prop,(∀ σ H,Pv σ H->N σ H)->t { D with nx:=N } σ H):Yw t u D σ H:=ht _ hr
def Ka:TE:=Tx (ZL (ZN 0) (ZL (tC (.int 0)) ZG))
theorem PL.but {H H':Hp}:∀ {xs:List V} {ps:List (Str×Int)},PL H xs ps->(∀ b ys,H b=some (.tup ys)->H' b=some (.tup ys))->PL H' xs ps
 | [],[],_,_=>trivial
 | x::xs,p::ps,h,s=>⟨let ⟨a,e,g⟩:=h.1;⟨a,e,s _ _ g⟩,PL.but h.2 s⟩
theorem yX (k:∀ (H':Hp) (d:Addr) (xs:List V),Z8 H H'->H' d=some (.lst xs)->PL H' xs (nrs.map fun s=>(s,(0:Int)))->Q (.ref d) H') :
  YK (Wx K (YR O0 [] E0 ZG)) 1 [] (ZO 0) Ka σ H Q:=by
 refine⟨Z,fun H1 l s1 hl=>⟨l,Z,⟨_,SqL.of hl⟩,fun d hd=>?_⟩⟩;have cp:l≠d:=fun z=>by rw[z,hd]at hl;cases hl
 have hn:nrs.length<=500:=by decide +kernel
 refine Ut (J:=Itl K l) (Q:=fun d H'=>Q (.ref d) H') nrs.length (fun i xs σ H9=>(∃ o,σ=[o])/\(∀ b o,b≠d->H1 b=some o->H9 b=some o)/\PL H9 xs ((nrs.take i).map fun s=>(s,(0:Int)))) ⟨⟨_,rfl⟩,fun b o n e=>by rw[Z5 n];exact e,trivial⟩ ?_ ?_;rintro i xs σ H9 hi ⟨⟨o,rfl⟩,fr,hP⟩ hd9;have hl9:=fr _ _ cp hl;have e1:(stv nrs)[i]?=some (.str nrs[i]):=by unfold stv;rw[yw,yR hi];rfl
 refine⟨⟨_,_,SqL.of hl9,e1⟩,fun x H2 ⟨e2,hx⟩=>?_⟩;subst e2;have hx:=hx _ (SqL.of hl9);rw[e1]at hx;cases hx;refine⟨_,Z,by show 2<=uR;decide,fun a ha=>?_⟩;have nad:a≠d:=fun z=>by rw[z,hd9]at ha;cases ha
 have hlen:xs.length<=1000:=by rw[hP.len,yK,xy];lia
 have hd2:(upd H2 a (.tup [.str nrs[i],.int 0])) d=some (.lst xs):=by rw[Z5 (uc nad)];exact hd9
 refine U5 hi hd2 hlen ⟨⟨_,rfl⟩,fun b o n e=>?_,?_⟩;rw[Z5 n,Z5 (fun z=>by rw[z]at e;rw[fr _ _ nad e]at ha;cases ha)];exact fr b o n e;have et:nrs.take (i+1)=nrs.take i++[nrs[i]]:=by rw[xT,yR hi];rfl
 rw[et,ym];refine PL.app (hP.but fun b ys hb=>?_) ⟨⟨a,rfl,?_⟩,trivial⟩;rw[Z5 (fun z=>by rw[z,hd9]at hb;cases hb),Z5 (fun z=>by rw[z,ha]at hb;cases hb)];exact hb;rw[Z5 nad];exact Z0;rintro xs σ H9 ⟨_,fr,hP⟩ hd9;rw[xn]at hP;have s9:Z8 H1 H9:=fun b o e=>fr b o (fun z=>by rw[z,hd]at e;cases e) e;exact⟨⟨_,SqL.of (s9 _ _ hl),by unfold stv;rw[yK];exact yO _⟩,k H9 d xs (s1.trans s9) hd9 hP⟩
structure J5 (C:Addr)(H:Hp)(d dx e ls c:Addr)(as:List Addr)(n:Nat)(x:PS2):Prop where
 dk:Dsk C H d dx c e as
 st:H ls=some (.lst ((as++[c]).map V.ref))
 cu:ZV H c x.1 x.2
 sh:ZW n x.1 x.2
 hi:∀ a∈as,∃ (n:Nat) (r u:List Nat),ZV H a r u/\ZW n r u
 ne:ls≠e
theorem J5.same {C:Addr}{H H':Hp}{d dx e ls c:Addr}{as:List Addr}{n:Nat}{x:PS2}(h:J5 C H d dx e ls c as n x)(s:Z8 H H'):J5 C H' d dx e ls c as n x:=
 ⟨h.dk.same s,s _ _ h.st,h.cu.same s,h.sh,fun a ha=>let ⟨n,r,u,g1,g2⟩:=h.hi a ha;⟨n,r,u,g1.same s,g2⟩,h.ne⟩
theorem J5.nd {ls:Addr}{x:PS2}(h:J5 C H d dx e ls c as n x):ls≠d:=fun z=>by have:=h.st;rw[z,h.dk.at_]at this;cases this
theorem zO (fs:List Int):∃ gs:List Int,Wr (fs.map V.int) (some 2) (some 62)=gs.map V.int:=by
 unfold Wr;rw[<-List.map_drop,<-List.map_take];exact⟨_,Z⟩
theorem Nb {α:Type}(xs:List α)(x:α):atI (xs++[x]) (-1)=some x:=by
 unfold atI ixN;rw[uL (by decide),uK (by simp;lia)];have:(-1+((xs++[x]).length:Int)).toNat=xs.length:=by simp;lia
 rw[this];simp
theorem J5.step {ls b:Addr}{n':Nat}{x x':PS2}(h:J5 C H d dx e ls c as n x)(f:Frm d e H H')(dk:Dsk C H' d dx b e (as++[c]))(hb:ZV H' b x'.1 x'.2)(hS:ZW n' x'.1 x'.2) :
  H' ls=some (.lst ((as++[c]).map V.ref))/\J5 C (upd H' ls (.lst ((as++[c]).map V.ref++[V.ref b]))) d dx e ls b (as++[c]) n' x':=by
 have st:=f _ _ h.nd h.ne h.st;have tp:∀ {q ys},H' q=some (.tup ys)->(upd H' ls (.lst ((as++[c]).map V.ref++[V.ref b]))) q=some (.tup ys):=fun {q ys} z=>by rw[Z5 (fun w=>by rw[w,st]at z;cases z)];exact z
 have ts:∀ {a r u},ZV H' a r u->ZV (upd H' ls (.lst ((as++[c]).map V.ref++[V.ref b]))) a r u:=fun {a r u} ⟨p,q,g1,g2,g3⟩=>⟨p,q,tp g1,tp g2,tp g3⟩;refine⟨st,⟨by rw[Z5 (uc h.nd)];exact dk.at_,by rw[Z5 (uc h.ne)];exact dk.lst⟩,by rw[Z0];simp,ts hb,hS,fun a ha=>?_,h.ne⟩;rcases yo.mp ha with q|q;obtain⟨m,r,u,g1,g2⟩:=h.hi a q;exact⟨m,r,u,ts (f.sh h.dk g1),g2⟩;have:a=c:=by simpa using q
 subst this;exact⟨n,_,_,ts (f.sh h.dk h.cu),h.sh⟩
def Rl (K:yS):Sp:=fun vs H Q _=>∃ (a:Addr) (ns:List Int),vs=[.ref a]/\SqL K H a (ns.map V.int)/\∀ H':Hp,Q (.bl true) H'
noncomputable def stg (a b:Int):Nat->Nat×PS2
 | 0=>(1,([0],[0]))
 | 1=>(3,sh3)
 | 2=>(3,dd 3 0 a sh3)
 | _=>(3,st3 a b)
theorem G6 (a b:Int)(i:Nat):ZW (stg a b i).1 (stg a b i).2.1 (stg a b i).2.2:=by
 match i with
 | 0=>exact Pu
 | 1=>exact UL
 | 2=>exact SD UL
 | _+3=>exact NK a b
noncomputable def WQ (a b:Int):List Str:=["sheet 102 210",VQ 0++uU (toString a),VQ 1++uU (toString b)]
theorem KC (h1:-9<=m)(h2:m<=9):(uU (toString m)).length<=100:=by
 have hC:=Li (kd:=0) (by decide) h1 h2;unfold Q9 at hC;rw[yy,uH]at hC;have:=hC.2;rw[yJ]at this;rw[<-Pl,ZD];lia
theorem DL {a b:Int}{s:Str}(hi:i<3)(hs:(WQ a b)[i]?=some s)(ha:-9<=a/\a<=9)(hb:-4<=b/\b<=4)(hd:Dsk C H d dx c e as)(h9:as.length<=900)(hc:ZV H c (stg a b i).2.1 (stg a b i).2.2)(hS:ZW (stg a b i).1 (stg a b i).2.1 (stg a b i).2.2)
  (k:∀ (H':Hp) (b' l:Addr),Frm d e H H'->Dsk C H' d dx b' e (as++[c])->ZV H' b' (stg a b (i+1)).2.1 (stg a b (i+1)).2.2->Q (.ref l) H'):Xf Cp CR C CU CX CN CG CP CY CM [.ref d,.str s] H Q E:=by
 match i,hi with
 | 0,_=>cases hs;exact Hh hd h9 hc hS k
 | 1,_=>cases hs;exact M0 (kd:=0) (by decide) ha.1 ha.2 hd h9 hc hS k
 | 2,_=>cases hs;exact M0 (kd:=1) (by decide) (by lia) (by lia) hd h9 hc hS k
noncomputable def V3 (H:Hp)(a:Addr):Nat:=match H a with|some (.lst xs)=>xs.length|_=>0
theorem Fi (n:Nat):VY n (byS (uU "undo")) 1=true:=by
 have hR:Yc (byS (uU "undo"))=true:=by decide +kernel
 have hs:spf (byS (uU "undo"))=[byS (uU "undo")]:=by decide +kernel
 unfold VY;rw[uL (by decide),hR,hs,Bool.true_and];show (decide (1=1)&&decide (txt (byS (uU "undo"))=uU "undo"))=true;rw[XA,uO rfl,uO rfl];rfl
theorem JX (h:m.natAbs<=1000):m.natAbs.log2<1920:=by
 by_cases z:m.natAbs=0;rw[z];decide;exact (uW z).mpr (xI h (by decide +kernel))
noncomputable abbrev frA:List (TE×Str×Int):=[(tC (.str "reach 1"),"reach 1",7),(tC (.str "reach 2"),"reach 2",7)]
noncomputable abbrev frB:List (TE×Str×Int):=[(tC (.str "undo"),"undo",1),(tC (.str "walk 1 0 0 1 0 1"),"walk 1 0 0 1 0 1",5)]
theorem fgA:Gvs frA:=⟨fun _ _ _ q=>q,fun _ _ _ q=>q,trivial⟩
theorem fgB:Gvs frB:=⟨fun _ _ _ q=>q,fun _ _ _ q=>q,trivial⟩
theorem Ee:(["_law_row"]:List Str).Nodup:=by decide +kernel
noncomputable abbrev JB:List Str:=["_law_script","_law_desk","_law_row","_law_m","_law_states","_law_shears","_law_cell","_law_due"]
theorem XN:ZT JB ["_law_script"] (Z2 U0):=fsc (by decide +kernel)
set_option maxHeartbeats 4000000 in
theorem Ba {fsh fst fn ff:Addr}{dsh dst df dt:uC}(TB:Bi mg)(Ts:mg "str"=none)(T:KTx K C)(M:Mk K C fi)(mD:mg "Desk"=some (.ref C))(bD:Zn K di ["self"] [])(GKi:Z6 P w K mg base (CX1 P w) 7 fi di ["self"] (spKi C))(FSa:MFn K C "say" "Desk.say" TY ["self","row"] fs ds)(GSa:Z6 P w K mg base (CX1 P w) 10 fs ds ["self","row"] (Xf Cp (ad 0) C (ad 1) (ad 2) (ad 3) (ad 4) (ad 5) (ad 6) (ad 7)))(jh:MFn K C "sheet" "Desk.sheet" Sg ["self"] fsh dsh)(dR:Z6 P w K mg base CX0 1 fsh dsh ["self"] (JN C))(gT:MFn K C "steps" "Desk.steps" Su ["self"] fst dst)(GSt:Z6 P w K mg base CX0 1 fst dst ["self"] (JY C))(FNr:Fn K mg "_law_no_rows" Sx [] fn dn)(GNr:Z6 P w K mg base CX0 1 fn dn [] O0)(FFa:Fn K mg "_law_faults" SX [] ff df)(GFa:Z6 P w K mg base CX0 1 ff df [] J9)(FCa:Fn K mg "_law_cell_at" SY ["_law_script","_law_k"] fc dc)(GCa:Z6 P w K mg base CX0 1 fc dc ["_law_script","_law_k"] (Ju K))(FTo:Fn K mg "_law_told" Uc ["_law_desk","_law_row"] ft dt)(GTo:Z6 P w K mg base CX0 11 ft dt ["_law_desk","_law_row"] (Jz C))(F:Fn K mg "law" U0 ["_law_script"] f fd):Z6 P w K mg base CX0 12 f fd ["_law_script"] (Rl K):=by
 refine F.F.ok XN (fun vs H Q E h=>?_) (fun pK A outer s H vs Q E hr h=>?_);obtain⟨a,ns,rfl,_⟩:=h;rfl
 ·obtain⟨sc,ns,rfl,hSc,kQ⟩:=h;have oU:ZK 1 _:=hr.mono (by decide);have hr8:ZK 8 _:=hr.mono (by decide);have cD:ZK 10 _:=hr.mono (by decide);have one:1<=uR:=by decide
  have big:1000<=uR:=by decide
  refine⟨_,(Z4 (pz XN 1 (Ff M GKi hr8 Z mD bD .nil Vf))
   (Z4 (pz XN 3 (Zr Zg (X4 (N:=JB) (names:=(Z2 U0).names) (N':=["_law_row"]) (k:=1) (pull:=[]) (te:=Ka) Z (bsc (by decide +kernel)) Z Z (XC (MM GNr oU Z FNr.m FNr.F.kp FNr.b .nil Y8)) (fun _ _ _ _ _ _=>Zy (i:=0) Ee Z (ug Z)) (fun _ _ _ _ _ _=>YV (Z9 (pv 0) (Z9 Z1 Z7)))) (MM GFa oU Z FFa.m FFa.F.kp FFa.b .nil Y8)))
   (Z4 (pz XN 4 (YU (Z9 (Xm (pv 1) T.cl jh.m dR oU jh.b .nil Y8) Z7)))
   (Z4 (ZI (pq Xb (Zr Xe (pc0 FCa GCa oU (Z9 (pv 0) (Z9 Z1 Z7))) Z1) Z1) (Z4 (pz XN 5 (Zr T3 (Zr Xe (Zr Eh (pc0 FCa GCa oU (Z9 (pv 0) (Z9 Z1 Z7))) Z1) Z1) Z1))
   (Z4 (Yd uf Z (Vn (YV (Z9 ZQ (Z9 (Zr X8 ZQ (Y0 Wp Z Ts SJ (Z9 (pv 5) Z7))) (Z9 (Zr X8 ZQ (Y0 Wp Z Ts SJ (Z9 (Zr T3 (Zr Xe (pc0 FCa GCa oU (Z9 (pv 0) (Z9 Z1 Z7))) Z1) Z1) Z7))) Z7))))) (Zy (i:=2) XN.nd Z (ug Z)) (Z4 (Zq (Uv (pv 1) T.cl FSa.m GSa cD FSa.b .nil Vf (Z9 (pv 2) Z7)))
   (Z3 (Zq (Yz ud tN tL Xn (pv 4) (Z9 (Xm (pv 1) T.cl jh.m dR oU jh.b .nil Y8) Z7))))))
   (Z3 (pz XN 3 (Zr Zg (pv 3) (YU (t:=tPr frA) (Z9 (YV (Z9 ZQ (Z9 Z1 Z7))) (Z9 (YV (Z9 ZQ (Z9 Z1 Z7))) Z7)))))))) (Z3 (pz XN 3 (Zr Zg (pv 3) (YU (t:=tPr frB) (Z9 (YV (Z9 ZQ (Z9 Z1 Z7))) (Z9 (YV (Z9 ZQ (Z9 Z1 Z7))) Z7)))))))
   (Z4 (Yd uf Z (XC (SW Lq (pv 0) (Us Z1) (Us Z1))) (Zy (i:=6) XN.nd Z (ug Z)) (Z4 (BV (pj ZF (pv 3) (Zr Xe (Zr Xe (Zr BG (Zr Xe (pv 6) Z1) Z1) Z1) (ZM Zj Z TB.len uD (Z9 (pv 3) Z7)))) (KQ Z (X7 (Zy (i:=2) XN.nd Z (ug Z)) (X7 (Zy (i:=7) XN.nd Z (ug Z)) Vu))))
   (Z3 (ZI (PW.pt (V6 (pq Xb (pc0 FTo GTo hr (Z9 (pv 1) (Z9 (pv 2) Z7))) (pv 7)) (V6 (Vs Ko (Xm (pv 1) T.cl jh.m dR oU jh.b .nil Y8) (pj ZF (pv 4) (Va Vj Z1)) (by with_unfolding_all rfl)) (Ug (pq Xb (Xm (pv 1) T.cl gT.m GSt oU gT.b .nil Y8) (Zr T3 (ZM Zj Z TB.len uD (Z9 (pv 4) Z7)) Z1)))))) (Z3 (ZR Wy)) ZH))))
   (Z4 (Vy uf (pq V5 (ZM Zj Z TB.len uD (Z9 (pv 4) Z7)) Z1) (Z4 (Zq (Kw ud PySem.F.slot_list_pop PySem.F.type_list_pop Kz (pv 4)))
   (Z4 (Zq (Uv (pv 1) T.cl FSa.m GSa cD FSa.b .nil Vf (Z9 ZQ Z7)))
   (Z3 (ZI (PW.pt (V6 (Vs Ko (Xm (pv 1) T.cl jh.m dR oU jh.b .nil Y8) (pj ZF (pv 4) (Va Vj Z1)) (by with_unfolding_all rfl)) (Ug (pq Xb (Xm (pv 1) T.cl gT.m GSt oU gT.b .nil Y8) (Zr T3 (ZM Zj Z TB.len uD (Z9 (pv 4) Z7)) Z1))))) (Z3 (ZR Wy)) ZH)))))
   (Z3 (ZR (YW Zz (pc0 FTo GTo hr (Z9 (pv 1) (Z9 ZQ Z7))) Z1 (YA _)))))))))),?_⟩
  intro d dx hd0 hdx0 ne;have s0:Z8 H (upd (upd H dx (.own d)) d (.ins C dx [])):=by
   have s1:=ZY (o:=.own d) (Z8.refl H) hdx0;exact ZY s1 hd0
  refine⟨d,dx,Z,Z0,fun H1 c0 e fr b0 dk0 bV=>⟨Z,?_⟩⟩;have s1:Z8 H H1:=fun b o hb=>fr b o (fun z=>by rw[z,hd0]at hb;cases hb) (s0 _ _ hb);have heH:H e=none:=s0.free b0;dsimp only [ZO];refine UH (fun σ H9=>∃ (lm:Addr) (ms:List V),σ=[some (.ref sc),some (.ref d),none,some (.ref lm),none,none,none,none]/\Z8 H1 H9/\H9 lm=some (.lst ms)/\lm≠e/\PL H9 ms Xt) ?_ ?_
  rotate_left
  intro N hN;dsimp only [Yj,tOp];refine yX fun H2 l2 x2 s2 g2 p2=>?_;refine⟨Z,fun H3 l3 x3 s3 g3 p3=>?_⟩;have p23:=(p2.same s3).app p3;have hlen:(x2++x3).length<=500:=by rw[p23.len];decide +kernel
  refine⟨l2,l3,_,_,Z,Z,s3 _ _ g2,g3,by rw[yJ]at hlen;lia,fun lm mr=>?_⟩;have s4:=ZY (o:=.lst (x2++x3)) (Z8.refl H3) mr;refine hN _ _ ⟨lm,x2++x3,rfl,s2.trans (s3.trans s4),Z0,fun z=>?_,p23.same s4⟩;rw[z,(s2.trans s3) _ _ dk0.lst]at mr;cases mr;rintro σ H9 ⟨lm,ms,rfl,s9,mr,nlm,hP⟩;have dk9:=dk0.same s9;have hc9:=bV.same s9;refine⟨_,Z,d,dx,_,Z,dk9.at_,X3 (by decide +kernel) (by decide +kernel),d,dx,c0,e,[],Z,dk9,?_⟩;refine⟨one,fun ls mH=>?_⟩;have sS:=ZY (o:=.lst [V.ref c0]) (Z8.refl H9) mH;have eS:(upd H9 ls (.lst [V.ref c0])) ls=some (.lst [V.ref c0]):=Z0;have cR:ls≠e:=fun z=>by rw[z,dk9.lst]at mH;cases mH
  have nlm2:lm≠ls:=fun z=>by rw[z,mH]at mr;cases mr
  have hlsH:H ls=none:=(s1.trans s9).free mH;dsimp only [ZO];show Yw _ _ _ [some (.ref sc),some (.ref d),none,some (.ref lm),some (.ref ls),none,none,none] (upd H9 ls (.lst [V.ref c0]));generalize upd H9 ls (.lst [V.ref c0])=kF at sS eS;have J0:J5 C kF d dx e ls c0 [] 1 ([0],[0]):=⟨dk9.same sS,eS,hc9.same sS,Pu,(fun a ha=>nomatch ha),cR⟩;have kf:Z8 H kF:=s1.trans (s9.trans sS);have mr:=sS _ _ mr;have hP:=hP.same sS;refine UH (fun σ H9=>∃ (lm c:Addr) (as:List Addr) (n:Nat) (x:PS2) (ms:List V) (rows:List (Str×Int)) (o2 o5:Option V),σ=[some (.ref sc),some (.ref d),o2,some (.ref lm),some (.ref ls),o5,none,none]/\Z8 H H9/\J5 C H9 d dx e ls c as n x/\as.length<=3/\H9 lm=some (.lst ms)/\PL H9 ms rows/\rows.all (TF n)=true/\(n=1->as=[])/\(n=3->∃ m,Tw 3 x m/\3<=m)/\1<=rows.length/\rows.length<=500) ?_ ?_
  rotate_left
  ·intro N hN;refine⟨_,Z,sc,ns,0,Z,kf.seq hSc,_,_,Z,Z,(by show (0:Int)<4;decide),?_⟩;refine⟨Z,_,Z,?_⟩;by_cases cc:WA ns 0%4=1;rw[show (!decide (V.int (WA ns 0%4)=V.int 1))=false by rw[cc];rfl];refine ZZ ?_;refine⟨_,Z,?_⟩;refine RK fgB (by decide) fun oX l11 jd jv g11 p11=>?_;have p11:PL oX jd RT:=p11;have pp:=(hP.same jv).app p11;have hlen:(ms++jd).length<=500:=(by rw[pp.len];decide +kernel);refine⟨lm,l11,_,_,Z,Z,jv _ _ mr,g11,by rw[yJ]at hlen;lia,fun lm2 gv=>?_⟩;have mB:=ZY (o:=.lst (ms++jd)) (Z8.refl oX) gv;have sA:=jv.trans mB;exact hN _ _ ⟨lm2,c0,[],1,_,ms++jd,Xt++RT,none,none,rfl,kf.trans sA,J0.same sA,by simp,Z0,pp.same mB,all1,fun _=>rfl,(fun z=>by cases z),UX.1 ▸ UX.2.1,UX.1 ▸ UX.2.2⟩
   ·rw[show (!decide (V.int (WA ns 0%4)=V.int 1))=true by rw[uJ (fun z=>cc (V.int.inj z))];rfl];refine ZP ?_;refine⟨_,Z,sc,ns,0,Z,kf.seq hSc,_,_,Z,Z,⟨by decide,by decide⟩,_,_,Z,Z,(by show (0:Int)<19;decide),_,_,Z,Z,?_⟩;dsimp only [ZO];obtain⟨a,ea⟩:∃ a:Int,a=WA ns 0/4%19-9:=⟨_,rfl⟩;rw[<-ea];have a1:-9<=a/\a<=9:=(by lia);obtain⟨b,eb⟩:∃ b:Int,b=WA ns 1%9-4:=⟨_,rfl⟩;have b1:-4<=b/\b<=4:=(by lia);refine UH (fun σ H9=>∃ (c:Addr) (as:List Addr) (o2:Option V),σ=[some (.ref sc),some (.ref d),o2,some (.ref lm),some (.ref ls),some (.int a),none,none]/\J5 C H9 d dx e ls c as 3 (st3 a b)/\as.length=3/\∀ q o,q≠d->q≠e->q≠ls->kF q=some o->H9 q=some o) ?_ ?_
    rotate_left
    ·intro N2 hN2;refine⟨_,Z,a,Z,JX (by lia),_,_,Z,Z,by have:=KC a1.1 a1.2;have:=(by decide +kernel:(uU "shear ").length<=100);show (uU "shear ").length+(uU (toString a)).length<=uR;lia,?_⟩;refine⟨_,Z,sc,ns,1,Z,kf.seq hSc,_,_,Z,Z,(by show (0:Int)<9;decide),_,_,Z,Z,?_⟩;refine⟨b,by show [V.int (WA ns 1%9-4)]=[V.int b];rw[eb],JX (by lia),_,_,Z,Z,by have:=KC (m:=b) (by lia) (by lia);have:=(by decide +kernel:(uU "turn ").length<=100);show (uU "turn ").length+(uU (toString b)).length<=uR;lia,?_⟩;refine⟨by show 3<=uR;lia,fun tp i8=>?_⟩;have sT:=ZY (o:=.tup (stv (WQ a b))) (Z8.refl kF) i8;have eT:(upd kF tp (.tup (stv (WQ a b)))) tp=some (.tup (stv (WQ a b))):=Z0;refine⟨tp,Z,⟨stv (WQ a b),SqT.of eT⟩,?_⟩;show ∃ W:Nat->Nat->St->Hp->Prop,(∃ m,W 0 m _ (upd kF tp (.tup (stv (WQ a b)))))/\_;generalize upd kF tp (.tup (stv (WQ a b)))=gV at sT eT;have kR:=J0.same sT;have ntd:tp≠d:=fun z=>by rw[z,kR.dk.at_]at eT;cases eT
     have nte:tp≠e:=fun z=>by rw[z,kR.dk.lst]at eT;cases eT
     have ntl:tp≠ls:=fun z=>by rw[z,kR.st]at eT;cases eT
     refine Mn (K:=K) (a:=tp) (xs:=stv (WQ a b)) (fun i σ H9=>∃ (c:Addr) (as:List Addr) (o2:Option V),σ=[some (.ref sc),some (.ref d),o2,some (.ref lm),some (.ref ls),some (.int a),none,none]/\J5 C H9 d dx e ls c as (stg a b i).1 (stg a b i).2/\as.length=i/\∀ q o,q≠d->q≠e->q≠ls->gV q=some o->H9 q=some o) ⟨c0,[],none,rfl,kR,rfl,fun q o _ _ _ h=>h⟩ ?_ ?_ ?_;rintro i σ H9 _ ⟨c,as,o2,rfl,J,_,fr⟩;exact SqT.of (fr _ _ ntd nte ntl eT)
     ·rintro i v σ H9 hv ⟨c,as,o2,rfl,J,hl,fr⟩;unfold stv at hv;rw[yw]at hv;cases hs:(WQ a b)[i]? with
      | none=>rw[hs]at hv;cases hv
      | some s=>
       rw[hs]at hv;cases hv;have hi3:i<3:=(yP.mp hs).1;refine⟨_,Z,d,dx,_,Z,J.dk.at_,X3 (by decide +kernel) (by decide +kernel),_,Z,?_⟩;dsimp only [ZG,xf,wL];refine DL hi3 hs a1 b1 J.dk (by lia) J.cu J.sh fun H13 b' l f bg hb=>?_;obtain⟨nZ,J'⟩:=J.step f bg hb (G6 a b (i+1));refine⟨_,Z,.inl ⟨Z,_,SqL.of nZ⟩,_,Z,d,dx,_,Z,bg.at_,X3 (by decide +kernel) (by decide +kernel),d,dx,b',e,_,Z,bg,ls,_,_,Z,Z,nZ,by rw[yK,yJ];exact YN (by simp;lia),?_⟩;refine⟨b',_,_,Z,J',by rw[yJ,hl];rfl,fun q o n1 n2 n3 h=>?_⟩;rw[Z5 n3];exact f _ _ n1 n2 (fr q o n1 n2 n3 h)
     rintro σ H9 ⟨c,as,o2,rfl,J,hl,fr⟩;exact hN2 _ _ ⟨c,as,o2,rfl,J,hl,fun q o n1 n2 n3 h=>fr q o n1 n2 n3 (sT _ _ h)⟩
    rintro σ oX ⟨c,as,o2,rfl,J,hl,fr⟩;have l4:oX lm=some (.lst ms):=fr _ _ (fun z=>by rw[z,J0.dk.at_]at mr;cases mr) nlm nlm2 mr;have gc:PL oX ms Xt:=hP.but fun q ys hq=>fr _ _ (fun z=>by rw[z,J0.dk.at_]at hq;cases hq) (fun z=>by rw[z,J0.dk.lst]at hq;cases hq) (fun z=>by rw[z,J0.st]at hq;cases hq) hq;have sH11:Z8 H oX:=fun q o hq=>fr q o (fun z=>by rw[z,hd0]at hq;cases hq) (fun z=>by rw[z,heH]at hq;cases hq) (fun z=>by rw[z,hlsH]at hq;cases hq) (kf _ _ hq);refine⟨_,Z,?_⟩;refine RK fgA (by decide) fun gV l12 je mB g12 p12=>?_;have p12:PL gV je Vc:=p12;have pp:=(gc.same mB).app p12;have hlen:(ms++je).length<=500:=(by rw[pp.len];decide +kernel);refine⟨lm,l12,_,_,Z,Z,mB _ _ l4,g12,by rw[yJ]at hlen;lia,fun lm2 gv=>?_⟩;have iH:=ZY (o:=.lst (ms++je)) (Z8.refl gV) gv;have sA:=mB.trans iH;obtain⟨kk,k1,k2,k3⟩:=Bo (NK a b) (Bv a1 b1);exact hN _ _ ⟨lm2,c,as,3,st3 a b,ms++je,Xt++Vc,o2,_,rfl,sH11.trans sA,J.same sA,by lia,Z0,pp.same iH,all3,(fun z=>by cases z),fun _=>⟨_,⟨kk,k1,k2,rfl⟩,k3⟩,UX.2.1,UX.2.2⟩
  rintro σ H9 ⟨lm,c,as,n,x,ms,rows,o2,o5,rfl,sH,J,has,mr,hP,ph,hn1,hn3,l1,l5⟩;refine UH (fun σ oX=>∃ (o2 o6 o7:Option V),σ=[some (.ref sc),some (.ref d),o2,some (.ref lm),some (.ref ls),o5,o6,o7]/\Z8 H9 oX) ?_ ?_
  rotate_left
  ·intro N hN;refine⟨_,Z,_,Z,_,Z,sc,_,Z,sH.seq hSc,fun l0 gq=>?_⟩;obtain⟨gs,eg⟩:=zO ns;rw[eg];have s7:=ZY (o:=.lst (gs.map V.int)) (Z8.refl H9) gq;have e7:(upd H9 l0 (.lst (gs.map V.int))) l0=some (.lst (gs.map V.int)):=Z0;generalize upd H9 l0 (.lst (gs.map V.int))=kF at s7 e7;refine⟨l0,Z,⟨_,SqL.of e7⟩,Qy (xs:=gs.map V.int) (fun i σ oX=>∃ (o2 o6 o7:Option V),σ=[some (.ref sc),some (.ref d),o2,some (.ref lm),some (.ref ls),o5,o6,o7]/\Z8 kF oX) ⟨_,_,_,Z,Z8.refl _⟩ (fun i σ oX _ ⟨_,_,_,_,s⟩=>SqL.of (s _ _ e7)) ?_ ?_⟩
   rotate_left
   rintro σ oX ⟨o2,o6,o7,rfl,jv⟩;exact hN _ _ ⟨_,_,_,rfl,s7.trans jv⟩;rintro i v σ oX hv ⟨o2,o6,o7,rfl,jv⟩;obtain⟨cell,rfl⟩:∃ cell:Int,v=.int cell:=by
    rw[yw]at hv;cases q:gs[i]? with
    | none=>rw[q]at hv;cases hv
    | some y=>rw[q]at hv;exact⟨y,(uz.inj hv).symm⟩
   have s9:=s7.trans jv;have J11:=J.same s9;have l4:=s9 _ _ mr;have gc:=hP.same s9;have fB:ms.length=rows.length:=hP.len;dsimp only [ZO];obtain⟨j,ej⟩:∃ j:Nat,cell%1000003*48271%100000007%(ms.length:Int)=(j:Int):=⟨(cell%1000003*48271%100000007%(ms.length:Int)).toNat,by rw[wj (Int.emod_nonneg _ (by lia))]⟩;have hj:j<rows.length:=(by have:=Int.emod_lt_of_pos (cell%1000003*48271%100000007) (show (0:Int)<(ms.length:Int) by lia);lia);obtain⟨ap,ga,ha⟩:=gc.get (yR hj);obtain⟨z,k,ez,ek,hk8,hz,hB,hk1,hk7⟩:=E6 (yn.mp ph _ (xJ hj));rw[ez,ek]at ha;have cm:Q8 (cell%1000003) 48271:=.inr ⟨by decide,by decide⟩;refine⟨_,Z,_,Z,_,_,Z,Z,(by show (0:Int)<1000003;decide),_,_,Z,Z,cm,_,_,Z,Z,(by show (0:Int)<100000007;decide),_,Z,lm,_,Z,.inl (SqL.of l4),_,_,Z,Z,(by show (0:Int)<(ms.length:Int);lia),lm,_,(j:Int),_,Z,by show V.int (cell%1000003*48271%100000007%(ms.length:Int))=_;rw[ej],SqL.of l4,ZU ga,?_⟩;refine⟨ap,_,Z,SqT.of ha,Z,_,_,Z,_,_,Z,Z,?_⟩;refine⟨_,Z,_,Z,d,dx,c,e,as,n,k,x.1,x.2,z,Z,J11.dk,by lia,J11.cu,J11.sh,hz,hB,hk8,fun q=>hn1 (hk1 q),fun q=>?_,fun gV mB=>?_⟩;obtain rfl:=hk7 q;exact⟨by decide,hn3 Z⟩;have kR:=J11.same mB;refine⟨_,Z,Z,_,Z,?_⟩;rw[show (!decide (V.int (k:Int)=V.int (k:Int)))=false by rw[uO rfl];rfl];refine ZZ ?_;refine⟨_,Z,d,dx,_,Z,kR.dk.at_,X3 (by decide +kernel) (by decide +kernel),d,dx,_,e,_,Z,kR.dk,?_⟩;refine⟨_,Z,_,Z,ls,_,_,_,Z,Z,SqL.of kR.st,by rw[ym];exact Nb _ _,?_⟩;refine⟨_,_,kR.cu.dt,kR.cu.dt,Vh _ _,Vh _ _,KJ hr (MI _ _),_,Z,?_⟩;rw[uK rfl,PF,uO rfl,uO rfl];refine ZZ ?_;refine⟨_,Z,d,dx,_,Z,kR.dk.at_,X3 (by decide +kernel) (by decide +kernel),d,dx,_,e,_,Z,kR.dk,?_⟩;refine⟨_,Z,ls,_,Z,.inl (SqL.of kR.st),_,_,Z,Z,Z,_,Z,?_⟩;rw[yK,yJ,uO (by congr 1;simp)];refine ZZ ?_;exact⟨_,_,_,Z,jv.trans mB⟩
  rintro σ kF ⟨o2,o6,o7,rfl,s10⟩;have J:=J.same s10;refine UH (fun σ oX=>∃ (c:Addr) (n:Nat) (x:PS2),σ=[some (.ref sc),some (.ref d),o2,some (.ref lm),some (.ref ls),o5,o6,o7]/\J5 C oX d dx e ls c [] n x) ?_ ?_
  rotate_left
  ·intro N hN;refine VA (fun σ oX=>∃ (c:Addr) (as:List Addr) (n:Nat) (x:PS2),σ=[some (.ref sc),some (.ref d),o2,some (.ref lm),some (.ref ls),o5,o6,o7]/\J5 C oX d dx e ls c as n x/\as.length<=3) (fun _ oX=>V3 oX ls) ⟨c,as,n,x,rfl,J,has⟩ ?_ ?_
   rotate_left
   rintro σ H Q Q' h ⟨v,e1,pp,ys,e2,e3,i,j,f1,f2,w,f3,f4⟩;exact⟨v,e1,pp,ys,e2,e3,i,j,f1,f2,w,f3,h _ _ f4⟩;rintro σ oX ⟨c,as,n,x,rfl,J,has⟩;refine⟨_,Z,ls,_,Z,.inl (SqL.of J.st),_,_,Z,Z,_,Z,?_⟩;rw[yK,yJ];have gh:as=[]\/∃ nq c',as=nq++[c']:=by
    by_cases z:as=[];exact .inl z;exact .inr ⟨as.dropLast,as.getLast z,(vz z).symm⟩
   rcases gh with rfl|⟨as,c',rfl⟩;refine ZZ ?_;exact hN _ _ ⟨c,n,x,rfl,J⟩;rw[uO (by simp;lia)];refine ZP ?_;have l11:V3 oX ls=as.length+2:=(by unfold V3;rw[J.st];simp);refine⟨_,Z,.inl ⟨Z,_,SqL.of J.st⟩,ls,_,.ref c,Z,Z,J.st,by rw[ym];simp,?_⟩;have ed:((as++[c']++[c]).map V.ref).dropLast=(as++[c']).map V.ref:=(by rw[ym];simp);rw[ed];have bh:Dsk C (upd oX ls (.lst ((as++[c']).map V.ref))) d dx c e (as++[c']):=⟨by rw[Z5 (uc J.nd)];exact J.dk.at_,by rw[Z5 (uc J.ne)];exact J.dk.lst⟩;have tp:∀ {q ys},oX q=some (.tup ys)->(upd oX ls (.lst ((as++[c']).map V.ref))) q=some (.tup ys):=fun {q ys} z=>by rw[Z5 (fun w=>by rw[w,J.st]at z;cases z)];exact z
   have ts:∀ {a r u},ZV oX a r u->ZV (upd oX ls (.lst ((as++[c']).map V.ref))) a r u:=fun {a r u} ⟨p,q,g1,g2,g3⟩=>⟨p,q,tp g1,tp g2,tp g3⟩;have dh:(upd oX ls (.lst ((as++[c']).map V.ref))) ls=some (.lst ((as++[c']).map V.ref)):=Z0;have hi1:∀ a∈as++[c'],∃ (n:Nat) (r u:List Nat),ZV (upd oX ls (.lst ((as++[c']).map V.ref))) a r u/\ZW n r u:=fun a ha=>let ⟨n,r,u,g1,g2⟩:=J.hi a ha;⟨n,r,u,ts g1,g2⟩
   have cu1:=ts J.cu;generalize upd oX ls (.lst ((as++[c']).map V.ref))=gV at bh dh hi1 cu1;obtain⟨n',r',u',mG,jn⟩:=hi1 c' (by simp);refine⟨_,Z,d,dx,_,Z,bh.at_,X3 (by decide +kernel) (by decide +kernel),?_⟩;dsimp only [ZL,tC,ZG,xf,wL];refine Fe bh (by lia) cu1 J.sh mG jn fun H13 l f bg=>?_;have J':J5 C H13 d dx e ls c' as n' (r',u'):=⟨bg,f _ _ J.nd J.ne dh,f.sh bh mG,jn,fun a ha=>let ⟨n,r,u,g1,g2⟩:=hi1 a (xP _ ha);⟨n,r,u,f.sh bh g1,g2⟩,J.ne⟩;refine⟨_,Z,d,dx,_,Z,J'.dk.at_,X3 (by decide +kernel) (by decide +kernel),d,dx,_,e,_,Z,J'.dk,?_⟩;refine⟨_,Z,_,Z,ls,_,_,_,Z,Z,SqL.of J'.st,by rw[ym];exact Nb _ _,?_⟩;refine⟨_,_,J'.cu.dt,J'.cu.dt,Vh _ _,Vh _ _,KJ hr (MI _ _),_,Z,?_⟩;rw[uK rfl,PF,uO rfl,uO rfl];refine ZZ ?_;refine⟨_,Z,d,dx,_,Z,J'.dk.at_,X3 (by decide +kernel) (by decide +kernel),d,dx,_,e,_,Z,J'.dk,?_⟩;refine⟨_,Z,ls,_,Z,.inl (SqL.of J'.st),_,_,Z,Z,Z,_,Z,?_⟩;rw[yK,yJ,uO (by congr 1;simp)];refine ZZ ?_;have l13:V3 H13 ls=as.length+1:=(by unfold V3;rw[J'.st];simp);exact⟨⟨c',as,n',(r',u'),Z,J',by simp at has;lia⟩,by show V3 H13 ls<V3 oX ls;lia⟩
  rintro σ oX ⟨c,n,x,rfl,J⟩;refine⟨_,Z,d,dx,c,e,[],n,1,x.1,x.2,byS (uU "undo"),by rw[XA];rfl,J.dk,by simp,J.cu,J.sh,by decide +kernel,Fi n,by decide,fun _=>rfl,(fun z=>by cases z),fun gV _=>?_⟩;refine⟨Z,?_⟩;exact kQ _
def XIs (K:yS)(C:Addr)(name qual:Str)(st:Stmt)(p1 p2:Str):Prop:=∃ f fd,Tv K C f name/\Fun K "__init__" qual st f fd/\Zn K fd [p1,p2] []
variable{qual:Str}{st:Stmt}{oc kV doc pm pK ct:uT}{od an:Option Addr}{oR:Array (Option uT)}
theorem Bd {name p1 p2:Str}(i:yD K (.ref C) "__init__"=some (some (.ref f)))(ex:V2 K C f=true)
  (sa:yD K (.ref C) "__setattr__"=some (some (.builtin "object.__setattr__"))) (mo:xm K C (.type "object")=some true) (na:yD K (.ref C) name=some none) (kp:yf K (.ref C)=true) (fn:wY K (.ref f)=some (.type "function"))
  (l:K.lookup f=some ⟨oc,od,.func (yd "__init__" qual (Y9 st) (Zi st) (Z2 st) .none kV doc pm an pK ct),oR⟩) (c:xG K pK qual=true) (k:yf K (.ref f)=true)
  (b:∀ (kV doc pm:uT) (an:Option Addr) (pK ct:uT) (us:List uT),us.length=([p1,p2]:List Str).length->qj (yd "__init__" qual (Y9 st) (Zi st) (Z2 st) .none kV doc pm an pK ct) ⟨us,[]⟩=pure (([p1,p2]:List Str).zip us)):XIs K C name qual st p1 p2:=by
 have F:=T9 l c k;exact⟨f,_,⟨ex,sa,mo,na,kp,fn⟩,F,F.binds b⟩
structure zS (K:yS)(C CD:Addr):Prop where
 cl:Cls K C
 kt:yp K (.ref C) (.ref CD)=some true
 ha:yD K (.ref C) "__class__"=some (some (.builtin "object.__class__"))
 hn:xC K (.builtin "object.__class__") "__get__"=some (some (.builtin "getset_descriptor.__get__"))
 htk:xj K (.builtin "object.__class__")=some true
 hm:xm K C (.type "object")=some true
def XU (K:yS)(C:Addr)(m qual:Str)(st:Stmt):Prop:=∃ f fd,Fun K m qual st f fd/\UZ K C m f
theorem DN {m:Str}(a:yD K (.ref C) m=some (some (.ref f)))(i:wg K (.ref f)=true)
  (l:K.lookup f=some ⟨oc,od,.func (yd m qual (Y9 st) (Zi st) (Z2 st) .none kV doc pm an pK ct),oR⟩) (c:xG K pK qual=true) (k:yf K (.ref f)=true):XU K C m qual st:=
 ⟨f,_,T9 l c k,a,i,k⟩
theorem XU.fn {m:Str}(R:XU K C m qual st)
  (b:∀ (kV doc pm:uT) (an:Option Addr) (pK ct:uT) (us:List uT),us.length=ps.length->qj (yd m qual (Y9 st) (Zi st) (Z2 st) .none kV doc pm an pK ct) ⟨us,[]⟩=pure (ps.zip us)):∃ f fd,MFn K C m qual st ps f fd:=by
 obtain⟨f,fd,F,M⟩:=R;exact⟨f,fd,F,F.binds b,M⟩
structure DIn (K:yS)(C:Addr)(qual:Str)(st:Stmt)(f:Addr)(fd:uC):Prop where
 M:Mk K C f
 F:Fun K "__init__" qual st f fd
 b:Zn K fd ["self","many"] []
theorem AD (mk:wa K C=true)(kc:yf K (.ref C)=true)
  (a:yD K (.ref C) "__init__"=some (some (.ref f))) (i:wg K (.ref f)=true)
  (l:K.lookup f=some ⟨oc,od,.func (yd "__init__" qual (Y9 st) (Zi st) (Z2 st) .none kV doc pm an pK ct),oR⟩) (c:xG K pK qual=true) (k:yf K (.ref f)=true)
  (b:∀ (kV doc pm:uT) (an:Option Addr) (pK ct:uT) (us:List uT),us.length=(["self","many"]:List Str).length->qj (yd "__init__" qual (Y9 st) (Zi st) (Z2 st) .none kV doc pm an pK ct) ⟨us,[]⟩=pure ((["self","many"]:List Str).zip us)):∃ f fd,DIn K C qual st f fd:=by
 have F:=T9 l c k;exact⟨f,_,⟨mk,a,i,kc⟩,F,F.binds b⟩
structure DC0 (K:yS)(C CD:Addr):Prop where
 pg:wG K C tu=true
 hd:xE K C=true
 po:vR K C=true
 sa:yD K (.ref C) "__setattr__"=some (some (.builtin "object.__setattr__"))
 ha:yD K (.ref C) "__class__"=some (some (.builtin "object.__class__"))
 hn:xC K (.builtin "object.__class__") "__get__"=some (some (.builtin "getset_descriptor.__get__"))
 htk:xj K (.builtin "object.__class__")=some true
 hm:xm K C (.type "object")=some true
 ty:wY K (.ref CD)=some (.type "type")
 cl:PySem.W.isClsIn K CD=true
 sb:xR K (.ref C) (.ref CD)=some true
theorem DC0.tx (h:DC0 K C CD):zS K C CD:=by
 refine⟨⟨h.pg,h.hd,h.po,h.sa⟩,?_,h.ha,h.hn,h.htk,h.hm⟩;unfold yp;by_cases e:C=CD;subst e;rw[uK (by simp)];rw[uL (by simpa using e)];unfold PySem.W.kitCls;dsimp only;rw[uK (by rw[show (wZ K CD).isSome=true from h.cl,h.ty];decide)];exact h.sb
theorem DC0.dt (h:DC0 K C CD)(n:yD K (.ref C) "many"=some none):DTx K C:=⟨h.tx.cl,n⟩
structure DIn1 (K:yS)(C:Addr)(qual:Str)(st:Stmt)(f:Addr)(fd:uC):Prop where
 M:Mk K C f
 F:Fun K "__init__" qual st f fd
 b:Zn K fd ["self"] []
theorem Do (mk:wa K C=true)(kc:yf K (.ref C)=true)
  (a:yD K (.ref C) "__init__"=some (some (.ref f))) (i:wg K (.ref f)=true)
  (l:K.lookup f=some ⟨oc,od,.func (yd "__init__" qual (Y9 st) (Zi st) (Z2 st) .none kV doc pm an pK ct),oR⟩) (c:xG K pK qual=true) (k:yf K (.ref f)=true)
  (b:∀ (kV doc pm:uT) (an:Option Addr) (pK ct:uT) (us:List uT),us.length=(["self"]:List Str).length->qj (yd "__init__" qual (Y9 st) (Zi st) (Z2 st) .none kV doc pm an pK ct) ⟨us,[]⟩=pure ((["self"]:List Str).zip us)):∃ f fd,DIn1 K C qual st f fd:=by
 have F:=T9 l c k;exact⟨f,_,⟨mk,a,i,kc⟩,F,F.binds b⟩
def OA (K:yS):List (Str×List Kd)->List (Key×uT)->Prop
 | [],[]=>True
 | p::tbl,q::kv=>(q.1=uN p.1/\∃ a,q.2=.ref a/\TTs K a (p.2.map Kd.nm))/\OA K tbl kv
 | _,_=>False
structure PInP (K:yS)(C:Addr)(f:Addr)(fd:uC):Prop where
 M:Mk K C f
 F:∃ dV,VU K "__init__" "Part.__init__" Vm dV f fd
 b:Zn K fd ["self","top","bottom"] []
 b1:∃ tk,Zn K fd ["self","top","bottom"] [.int 1 tk]
theorem Em {Td:Addr}{tc:uT}{td:Option Addr}{tsl:Array (Option uT)}{tk:Tok}{tn:Nat}(mk:wa K C=true)(kc:yf K (.ref C)=true)
  (a:yD K (.ref C) "__init__"=some (some (.ref f))) (i:wg K (.ref f)=true)
  (l:K.lookup f=some ⟨oc,od,.func (yd "__init__" "Part.__init__" (Y9 Vm) (Zi Vm) (Z2 Vm) (.ref Td) kV doc pm an pK ct),oR⟩) (c:xG K pK "Part.__init__"=true) (k:yf K (.ref f)=true)
  (t:K.lookup Td=some ⟨tc,td,.seq #[.int 1 tk] tn,tsl⟩):∃ fd,PInP K C f fd:=by
 refine⟨_,⟨mk,a,i,kc⟩,⟨_,LC l c k⟩,fun s us hK hl=>?_,tk,fun s us hK hl=>?_⟩
 ·have oF:us.length=3:=by simpa using hl
  match us,oF with
  | [x,y,z],_=>exact vn hK rfl t rfl rfl rfl
 ·have oF:us.length=2:=by simpa using hl
  match us,oF with
  | [x,y],_=>exact vn hK rfl t rfl rfl rfl
structure Ou (K:yS)(C:Addr):Prop where
 pg:wG K C tu=true
 hd:xE K C=true
 po:vR K C=true
 sa:yD K (.ref C) "__setattr__"=some (some (.builtin "object.__setattr__"))
 nT:yD K (.ref C) "top"=some none
 nB:yD K (.ref C) "bottom"=some none
 ha:yD K (.ref C) "__class__"=some (some (.builtin "object.__class__"))
 hn:xC K (.builtin "object.__class__") "__get__"=some (some (.builtin "getset_descriptor.__get__"))
 htk:xj K (.builtin "object.__class__")=some true
 hm:xm K C (.type "object")=some true
theorem Dy (K:yS)(C:Addr):yp K (.ref C) (.ref C)=some true:=by
 unfold yp;rw[uK (qi _)]
theorem Ou.tx (h:Ou K C)(m:mg "Part"=some (.ref C)):PTx K mg C:=
 ⟨⟨h.pg,h.hd,h.po,h.sa⟩,h.nT,h.nB,m,Dy K C,h.ha,h.hn,h.htk,h.hm⟩
theorem P7 {K:yS}(s:Str):∀ (tbl:List (Str×List Kd)) (kv:List (Key×uT)),OA K tbl kv->(tbl.lookup s=none->tK kv (uN s:Key)=none)/\∀ ks,tbl.lookup s=some ks->∃ a,tK kv (uN s:Key)=some (.ref a)/\TTs K a (ks.map Kd.nm)
 | [],[],_=>⟨fun _=>rfl,fun ks h=>by cases h⟩
 | (x,ks0)::tbl,(k,v)::kv,h=>by
  obtain⟨⟨rfl,a,rfl,ha⟩,ht⟩:=h;have ih:=P7 s tbl kv ht;by_cases e:s=x;subst e;have e1:((s,ks0)::tbl).lookup s=some ks0:=by rw[xU,show (s==s)=true from qi s]
  have e2:tK ((uN s,uI a)::kv) (uN s:Key)=some (.ref a):=by simp[tK]
  rw[e1,e2];exact⟨(fun q=>by cases q),fun ks q=>by cases q;exact⟨a,Z,ha⟩⟩;have e1:((x,ks0)::tbl).lookup s=tbl.lookup s:=by rw[xU,show (s==x)=false from tQ.mpr e]
  have e2:tK ((uN x,uI a)::kv) (uN s:Key)=tK kv (uN s:Key):=by
   unfold tK;rw[List.find?_cons_of_neg (by simpa using fun q=>e q.symm)]
  rw[e1,e2];exact ih
 | [],_::_,h=>h.elim
 | _::_,[],h=>h.elim
theorem CO {v0 v1 v2 v3 v4 v5 v6 v7 v8 v9 v10 v11 gN gO gP:Addr}(h0:TTs K v0 [uU "text",uU "text"])(h1:TTs K v1 [uU "number"])(h2:TTs K v2 [uU "number"])(h3:TTs K v3 [uU "side"])(h4:TTs K v4 [])(h5:TTs K v5 [])(h6:TTs K v6 [])(h7:TTs K v7 [])(h8:TTs K v8 [])(h9:TTs K v9 [uU "number",uU "number"])(eQ:TTs K v10 [])(h11:TTs K v11 [uU "square",uU "part",uU "part",uU "number",uU "number",uU "steps"])(h12:TTs K gN [uU "text",uU "text"])(h13:TTs K gO [uU "most"])(h14:TTs K gP [uU "text",uU "text"]):KvT [(uN (uU "sheet"),.ref v0),(uN (uU "shear"),.ref v1),(uN (uU "turn"),.ref v2),(uN (uU "mirror"),.ref v3),(uN (uU "undo"),.ref v4),(uN (uU "form"),.ref v5),(uN (uU "turns"),.ref v6),(uN (uU "counts"),.ref v7),(uN (uU "bands"),.ref v8),(uN (uU "along"),.ref v9),(uN (uU "draw"),.ref v10),(uN (uU "walk"),.ref v11),(uN (uU "same"),.ref gN),(uN (uU "reach"),.ref gO),(uN (uU "over"),.ref gP)] K:=by
 have A:OA K Pd [(uN (uU "sheet"),.ref v0),(uN (uU "shear"),.ref v1),(uN (uU "turn"),.ref v2),(uN (uU "mirror"),.ref v3),(uN (uU "undo"),.ref v4),(uN (uU "form"),.ref v5),(uN (uU "turns"),.ref v6),(uN (uU "counts"),.ref v7),(uN (uU "bands"),.ref v8),(uN (uU "along"),.ref v9),(uN (uU "draw"),.ref v10),(uN (uU "walk"),.ref v11),(uN (uU "same"),.ref gN),(uN (uU "reach"),.ref gO),(uN (uU "over"),.ref gP)]:=⟨⟨rfl,v0,rfl,h0⟩,⟨rfl,v1,rfl,h1⟩,⟨rfl,v2,rfl,h2⟩,⟨rfl,v3,rfl,h3⟩,⟨rfl,v4,rfl,h4⟩,⟨rfl,v5,rfl,h5⟩,⟨rfl,v6,rfl,h6⟩,⟨rfl,v7,rfl,h7⟩,⟨rfl,v8,rfl,h8⟩,⟨rfl,v9,rfl,h9⟩,⟨rfl,v10,rfl,eQ⟩,⟨rfl,v11,rfl,h11⟩,⟨rfl,gN,rfl,h12⟩,⟨rfl,gO,rfl,h13⟩,⟨rfl,gP,rfl,h14⟩,trivial⟩;exact⟨fun w0 h=>(P7 (txt w0) _ _ A).1 h,fun w0 ks h=>(P7 (txt w0) _ _ A).2 ks h⟩
theorem Mz {K:yS}{t:uT}:∀ (cs:List uT),(∀ c∈cs,yp K t c=some false)->u7 K t cs=some false
 | [],_=>rfl
 | c::cs,h=>by
  have h1:=h c xS;have h2:=Mz cs fun d hd=>h d (yx _ hd);unfold u7;rw[h1];exact h2
noncomputable abbrev adv (W0 W1 W2 W3 W4 W5 W6 W7 W8 W9 lS lT kZ lU:Addr):Nat->Addr
 | 0=>W0
 | 1=>W1
 | 2=>W2
 | 3=>W3
 | 4=>W4
 | 5=>W5
 | 6=>W6
 | 7=>W7
 | 8=>W8
 | 9=>W9
 | 10=>lS
 | 11=>lT
 | 12=>kZ
 | _=>lU
abbrev Yb (f:Nat->Prop):Nat->Prop
 | 0=>True
 | n+1=>Yb f n/\f n
theorem Yb.get {f:Nat->Prop}:∀ {n i:Nat},Yb f n->i<n->f i
 | n+1,i,h,hi=>by
  by_cases e:i=n;subst e;exact h.2;exact Yb.get h.1 (by omega)
theorem AC {SE:Addr}(fS:Ze K SE)(mS:mg "SheetError"=some (.ref SE))(fA:Yb (fun j=>Ze K (ad j)) 14)(sS:Yb (fun i=>xR K (.ref (ad i)) (.ref SE)=some true) 8)(sV:Yb (fun i=>xR K (.ref (ad i)) (.type "ValueError")=some true) 8)
  (sA:Yb (fun i=>Yb (fun j=>xR K (.ref (ad i)) (.ref (ad j))=some (Nat.beq j i)) 14) 8) (nA:((yI 8).all fun i=>(yI 14).all fun j=>(ad i==ad j)==Nat.beq j i)=true) (hd:xE K (ad 4)=true) (na:YG K (ad 4) "square"):XC5 K mg SE ad:=by
 have bq:∀ j i:Nat,Nat.beq j i=decide (j=i):=fun j i=>by
  by_cases e:j=i;subst e;rw[uO rfl];exact Nat.beq_refl j;rw[uJ e];exact wy.mpr fun q=>e (Nat.eq_of_beq_eq_true q)
 have kk:∀ i j,i<8->j<14->yp K (.ref (ad i)) (.ref (ad j))=some (decide (j=i)):=fun i j hi hj=>by
  have h1:=(sA.get hi).get hj;rw[bq]at h1;refine Ex (fA.get hj) h1 ?_;by_cases e:j=i;exact .inl (uO e);refine .inr fun q=>?_;have h2:=yn.mp (yn.mp nA i (yL.mpr hi)) j (yL.mpr hj);rw[bq,uJ e,q]at h2;simp at h2
 refine⟨fS,fA.get (by decide),mS,fun k hk=>⟨(fA.get (by omega)).x,kk k 0 hk (by decide),kk k 1 hk (by decide),kk k 2 hk (by decide),kk k 3 hk (by decide),kk k 4 hk (by decide),kk k 5 hk (by decide),kk k 6 hk (by decide),kk k 7 hk (by decide),CI Jn (sV.get hk),?_⟩,fun k hk h4=>?_,?_,fun k hk=>sS.get hk,hd,na⟩;refine Mz _ fun c hc=>?_;obtain⟨a,ha,rfl⟩:=yE.mp hc;have:∃ j,8<=j/\j<14/\a=ad j:=by
  simp only[yl,List.not_mem_nil,or_false]at ha;rcases ha with e|e|e|e|e|e;exact⟨8,by decide,by decide,e⟩;exact⟨9,by decide,by decide,e⟩;exact⟨10,by decide,by decide,e⟩;exact⟨11,by decide,by decide,e⟩;exact⟨12,by decide,by decide,e⟩;exact⟨13,by decide,by decide,e⟩
 obtain⟨j,h1,h2,rfl⟩:=this;have:=kk k j hk h2;rwa [uJ (by omega)]at this;have:=(sA.get hk).get (show 4<14 by decide);rwa [bq,uJ (uc h4)]at this;exact (sA.get (show 4<8 by decide)).get (show 4<14 by decide)
def Raw (K:yS)(x:Str)(st:Stmt):Prop:=∃ f fd,Fun K x x st f fd/\yF K uG x=some (some (.ref f))/\∃ kV doc pm an pK ct,fd=yd x x (Y9 st) (Zi st) (Z2 st) .none kV doc pm an pK ct
theorem La {x:Str}(a:yF K uG x=some (some (.ref f)))
  (l:K.lookup f=some ⟨oc,od,.func (yd x x (Y9 st) (Zi st) (Z2 st) .none kV doc pm an pK ct),oR⟩) (c:xG K pK x=true) (k:yf K (.ref f)=true):Raw K x st:=
 ⟨f,_,T9 l c k,a,kV,doc,pm,an,pK,ct,rfl⟩
theorem Raw.fn {h:Heap}{x:Str}(X:K.In h)(G:h.Ns uG mg)(R:Raw K x st)
  (b:∀ (kV doc pm:uT) (an:Option Addr) (pK ct:uT) (us:List uT),us.length=ps.length->qj (yd x x (Y9 st) (Zi st) (Z2 st) .none kV doc pm an pK ct) ⟨us,[]⟩=pure (ps.zip us)):∃ f fd,Fn K mg x st ps f fd:=by
 obtain⟨f,fd,F,a,_⟩:=R;exact⟨f,fd,F,F.binds b,yu X G a⟩
abbrev BOk (x:Str)(st:Stmt)(ps:List Str):Prop:=∀ (kV doc pm:uT) (an:Option Addr) (pK ct:uT) (us:List uT),us.length=ps.length->qj (yd x x (Y9 st) (Zi st) (Z2 st) .none kV doc pm an pK ct) ⟨us,[]⟩=pure (ps.zip us)
abbrev U1 (K:yS):List (Str×Stmt×List Str)->Prop
 | []=>True
 | (x,st,ps)::l=>(Raw K x st/\BOk x st ps)/\U1 K l
abbrev FnsM (K:yS)(mg:Str->Option uT):List (Str×Stmt×List Str)->Prop
 | []=>True
 | (x,st,ps)::l=>(∃ f fd,Fn K mg x st ps f fd)/\FnsM K mg l
theorem U1.fn {K:yS}{h:Heap}{mg:Str->Option uT}(X:K.In h)(G:h.Ns uG mg):∀ l,U1 K l->FnsM K mg l
 | [],_=>trivial
 | (x,st,ps)::l,h=>⟨h.1.1.fn X G h.1.2,U1.fn X G l h.2⟩
variable{p:uT->uT->uT->Option Addr->uT->uT->List uT->Prop}
theorem lk0 (h:∀ k l m n x y ,p k l m n x y []):∀ k l m n x y (us:List uT),us.length=0->p k l m n x y us:=fun k l m n x y us hl=>match us,hl with|[],_=>h _ _ _ _ _ _
theorem lk1 (h:∀ k l m n x y a,p k l m n x y [a]):∀ k l m n x y (us:List uT),us.length=1->p k l m n x y us:=fun k l m n x y us hl=>match us,hl with|[_],_=>h _ _ _ _ _ _ _
theorem lk2 (h:∀ k l m n x y a b,p k l m n x y [a,b]):∀ k l m n x y (us:List uT),us.length=2->p k l m n x y us:=fun k l m n x y us hl=>match us,hl with|[_,_],_=>h _ _ _ _ _ _ _ _
theorem lk3 (h:∀ k l m n x y a b c,p k l m n x y [a,b,c]):∀ k l m n x y (us:List uT),us.length=3->p k l m n x y us:=fun k l m n x y us hl=>match us,hl with|[_,_,_],_=>h _ _ _ _ _ _ _ _ _
theorem lk4 (h:∀ k l m n x y a b c d,p k l m n x y [a,b,c,d]):∀ k l m n x y (us:List uT),us.length=4->p k l m n x y us:=fun k l m n x y us hl=>match us,hl with|[_,_,_,_],_=>h _ _ _ _ _ _ _ _ _ _
set_option maxHeartbeats 0 in
theorem AN {l:PySem.W.OpenLaw}{h:Heap}{fa:Addr}{oB:Tok}{oz:Tok}{ml:Tok}{mj:Tok}{jc:Tok}{lG:Tok}{oy:Tok}{nz:Tok}{oA:Tok}{nW:Tok}{nH:Addr}{mm:uT}{mn:uT}{lV:Addr}{mL:Addr}{mM:Addr}{mO:Addr}{mP:Addr}{mQ:Addr}{mR:Addr}{mU:Addr}{mW:Addr}{mX:Addr}{mY:Addr}{nJ:Addr}{nK:Addr}{nO:Addr}{nP:Addr}{nQ:Addr}{nG:Addr}{WS:Addr}{W0:Addr}{W1:Addr}{W2:Addr}{W3:Addr}{W4:Addr}{W5:Addr}{W6:Addr}{W7:Addr}{W8:Addr}{W9:Addr}{lS:Addr}{lT:Addr}{kZ:Addr}{lU:Addr}{f_CP:Addr}{CK:Addr}(X:K.In h)(G:h.Ns uG mg)(hfa:mg "law"=some (.ref fa))
  (RR:U1 K (("sheet_of",SB,["right","up"])::("size",WC,["sheet"])::("back_row",XF,["row"])::("checked_rows",Sw,["right","up"])::("has_each_once",Vb,["row"])::("is_whole",Wl,["thing"])::("is_square",Wz,["thing","squares"])::("need_square",Rm,["sheet","square"])::("groups_of",Sh,["rows"])::("step_rows",RV,["rows"])::("paths_from",RL,["rows","first"])::("cycle_from",Ta,["row","first"])::("cycles",Vt,["row"])::("common_divisor",UU,["one","other"])::("word_of",LX,["table"])::("need_word",UM,["word"])::("need_place",S9,["sheet","place"])::("is_inside",S4,["part"])::("need_way",UD,["p","q"])::("need_straight_way",To,["p","q"])::("sheared",UA,["sheet"])::("turned",Ul,["sheet"])::("moved",T8,["sheet","word"])::("moved_once",S8,["sheet","letter"])::("to_level",SM,["p","q"])::("bands_along",Tg,["sheet","p","q"])::("laid",JW,["sheet","base"])::("shown",RN,["sheet"])::("read",TJ,["text"])::("is_pair",Sn,["words"])::("is_word",Uw,["word"])::("signs_of",UI,["row"])::("squares_of",US,["word"])::("things_in",UP,["row"])::("need",Wd,["fits"])::("thing_in",SK,["word","kind"])::("part_in",Up,["word"])::("number_in",VH,["word"])::("renumbered",Ti,["sheet","f"])::("numbering",Te,["sheet","first"])::("is_renumbering",Tn,["sheet","f"])::("renumbered_row",UV,["row","f"])::("form",Rq,["sheet"])::("compared",Nn,["one","other"])::("form_with_numbering",VO,["sheet"])::("reached",SO,["sheet","most"])::("put",QX,["told","listed","pair","most"])::("changed",SQ,["sheet","asked"])::("sheet_in",Uz,["asked"])::("deed_in",Sb,["asked"])::("answer",Uq,["sheet","asked"])::("walk_text",NS,["told"])::("same_text",ND,["told"])::("over_text",Nw,["m"])::("_law_cell_at",SY,["_law_script","_law_k"])::("_law_no_rows",Sx,[])::("_law_faults",SX,[])::("_law_mark",Ud,["_law_error"])::("_law_told",Uc,["_law_desk","_law_row"])::[]))
  (l8:Tu K "walk" TV ["sheet","place","p","q","steps"] (.int 1))
  (jD:Raw K "law" U0)
  (oq:yF K uG "MOST_SQUARES"=some (some (.int 36 oB)))
  (oj:yF K uG "MOST_LETTERS"=some (some (.int 1000 oz)))
  (ma:yF K uG "GREATEST"=some (some (.int 60 ml)))
  (l9:yF K uG "FARTHEST"=some (some (.int 60 mj)))
  (iS:yF K uG "SIGNS"=some (some (.str (uU "0123456789abcdefghijklmnopqrstuvwxyz") jc)))
  (k8:yF K uG "FIGURES"=some (some (.str (uU "0123456789") lG)))
  (oh:yF K uG "MOST_FIGURES"=some (some (.int 3 oy)))
  (nr:yF K uG "MOST_STEPS"=some (some (.int 60 nz)))
  (om:yF K uG "MOST_REACHED"=some (some (.int 200 oA)))
  (nU:yF K uG "FIRST_SHEET"=some (some (.str (uU "0 0") nW)))
  (m_WS:yF K uG "SheetError"=some (some (.ref WS))) (f_WS:Ze K WS)
  (m_W0:yF K uG "NoRow"=some (some (.ref W0))) (f_W0:Ze K W0)
  (m_W1:yF K uG "NothingDone"=some (some (.ref W1))) (f_W1:Ze K W1)
  (m_W2:yF K uG "NoText"=some (some (.ref W2))) (f_W2:Ze K W2)
  (m_W3:yF K uG "NoSheet"=some (some (.ref W3))) (f_W3:Ze K W3)
  (m_W4:yF K uG "NotTogether"=some (some (.ref W4))) (f_W4:Ze K W4)
  (m_W5:yF K uG "NoPlace"=some (some (.ref W5))) (f_W5:Ze K W5)
  (m_W6:yF K uG "NoWay"=some (some (.ref W6))) (f_W6:Ze K W6)
  (m_W7:yF K uG "TooMany"=some (some (.ref W7))) (f_W7:Ze K W7)
  (m_W8:yF K uG "NoDrawing"=some (some (.ref W8))) (f_W8:Ze K W8)
  (m_W9:yF K uG "NoNumber"=some (some (.ref W9))) (f_W9:Ze K W9)
  (cK:yF K uG "NoRenumbering"=some (some (.ref lS))) (bz:Ze K lS)
  (cL:yF K uG "NoSquare"=some (some (.ref lT))) (bA:Ze K lT)
  (cM:yF K uG "NoTable"=some (some (.ref kZ))) (bB:Ze K kZ)
  (cN:yF K uG "NoWord"=some (some (.ref lU))) (bC:Ze K lU)
  (e_W0:Zk K W0)
  (e_W1:Zk K W1)
  (e_W2:Zk K W2)
  (e_W3:Zk K W3)
  (e_W5:Zk K W5)
  (br:Zk K W6)
  (e_W7:Zk K W7)
  (e_W9:Zk K W9)
  (bj:Zk K lS)
  (bo:Zk K lT)
  (bp:Zk K lU)
  (sS:Yb (fun i=>xR K (.ref ((adv W0 W1 W2 W3 W4 W5 W6 W7 W8 W9 lS lT kZ lU) i)) (.ref WS)=some true) 8)
  (sV:Yb (fun i=>xR K (.ref ((adv W0 W1 W2 W3 W4 W5 W6 W7 W8 W9 lS lT kZ lU) i)) (.type "ValueError")=some true) 8)
  (sA:Yb (fun i=>Yb (fun j=>xR K (.ref ((adv W0 W1 W2 W3 W4 W5 W6 W7 W8 W9 lS lT kZ lU) i)) (.ref ((adv W0 W1 W2 W3 W4 W5 W6 W7 W8 W9 lS lT kZ lU) j))=some (Nat.beq j i)) 14) 8)
  (nA:((yI 8).all fun i=>(yI 14).all fun j=>((adv W0 W1 W2 W3 W4 W5 W6 W7 W8 W9 lS lT kZ lU) i==(adv W0 W1 W2 W3 W4 W5 W6 W7 W8 W9 lS lT kZ lU) j)==Nat.beq j i)=true)
  (m_CP:yF K uG "Part"=some (some (.ref CP))) (t_CP:Ou K CP) (i_CP:∃ fd,PInP K CP f_CP fd)
  (m_CD:yF K uG "Deed"=some (some (.ref CD))) (y_CD:DC0 K CD CD)
  (m_CS:yF K uG "Shear"=some (some (.ref CS))) (dC:DC0 K CS CD)
  (m_CT:yF K uG "Turn"=some (some (.ref CT))) (dD:DC0 K CT CD)
  (m_CK:yF K uG "Desk"=some (some (.ref CK))) (y_CK:DC0 K CK CK)
  (b_CS:∃ f fd,DIn K CS "Shear.__init__" Qe f fd)
  (b_CT:∃ f fd,DIn K CT "Turn.__init__" Qh f fd)
  (b_CK:∃ f fd,DIn1 K CK "Desk.__init__" Pr f fd)
  (cW:yD K (.ref CK) "lying"=some none) (cX:yD K (.ref CK) "earlier"=some none)
  (cY:yD K (.ref CS) "many"=some none)
  (cZ:yD K (.ref CT) "many"=some none)
  (v_W4:XIs K W4 "square" "NotTogether.__init__" OC "self" "square")
  (j_WS:OH K WS)
  (h_W4:xE K W4=true)
  (g_W4:yD K (.ref W4) "square"=some none)
  (q_S0:XU K CS "done" "Shear.done" Uk)
  (q_T0:XU K CT "done" "Turn.done" Sa)
  (q_K1:XU K CK "say" "Desk.say" TY)
  (q_K2:XU K CK "sheet" "Desk.sheet" Sg)
  (q_K3:XU K CK "steps" "Desk.steps" Su)
  (q_K4:XU K CK "lay" "Desk.lay" Rz)
  (q_K5:XU K CK "undo" "Desk.undo" RE)
  (q_P0:XU K CP "whole" "Part.whole" Q0)
  (q_P1:XU K CP "shown" "Part.shown" Rt)
  (lE:yF K uG "LETTERS"=some (some (.ref nH))) (k9:TDi l.prog w K nH [(uN (uU "s"),mm),(uN (uU "t"),mn)])
  (ja:yF K uG "KINDS"=some (some (.ref lV))) (iT:TDi l.prog w K lV [(uN (uU "sheet"),(.ref mL)),(uN (uU "shear"),(.ref mM)),(uN (uU "turn"),(.ref mO)),(uN (uU "mirror"),(.ref mP)),(uN (uU "undo"),(.ref mQ)),(uN (uU "form"),(.ref mR)),(uN (uU "turns"),(.ref mU)),(uN (uU "counts"),(.ref mW)),(uN (uU "bands"),(.ref mX)),(uN (uU "along"),(.ref mY)),(uN (uU "draw"),(.ref nJ)),(uN (uU "walk"),(.ref nK)),(uN (uU "same"),(.ref nO)),(uN (uU "reach"),(.ref nP)),(uN (uU "over"),(.ref nQ))])
  (lD:yF K uG "CHANGES"=some (some (.ref nG))) (lH:TTs K nG [uU "sheet",uU "shear",uU "turn",uU "mirror"])
  (kn:TTs K mL [uU "text",uU "text"])
  (ko:TTs K mM [uU "number"])
  (kq:TTs K mO [uU "number"])
  (kr:TTs K mP [uU "side"])
  (ku:TTs K mQ [])
  (kx:TTs K mR [])
  (kz:TTs K mU [])
  (kA:TTs K mW [])
  (kB:TTs K mX [])
  (kC:TTs K mY [uU "number",uU "number"])
  (lI:TTs K nJ [])
  (lJ:TTs K nK [uU "square",uU "part",uU "part",uU "number",uU "number",uU "steps"])
  (lK:TTs K nO [uU "text",uU "text"])
  (lL:TTs K nP [uU "most"])
  (lM:TTs K nQ [uU "text",uU "text"])
  (dJ:yF K uG "len"=some none)
  (jf:yF K uG "range"=some none)
  (gR:yF K uG "list"=some none)
  (jg:yF K uG "tuple"=some none)
  (nF:yF K uG "isinstance"=some none)
  (dH:yF K uG "int"=some none)
  (gQ:yF K uG "bool"=some none)
  (dG:yF K uG "all"=some none)
  (dN:yF K uG "set"=some none)
  (kD:yF K uG "sorted"=some none)
  (mZ:yF K uG "enumerate"=some none)
  (dO:yF K uG "str"=some none)
  (dQ:yF K uG "zip"=some none)
  (dM:yF K uG "min"=some none)
  (dP:yF K uG "sum"=some none)
  (dF:yF K uG "abs"=some none)
  (nD:yF K uG "ValueError"=some none)
  : ∃ fd:uC,(∀ (s:uS) (v:uT),qe s fd ⟨[v],[]⟩ [("_law_script",v)])/\∀ base:Heap,K.In base->base.Ns uG mg->Z6 l.prog w K mg base CX0 12 fa fd ["_law_script"] (Rl K):=by
 have T:Bi mg:=⟨yg X G dJ,yg X G jf,yg X G gR,yg X G jg,yg X G nF,yg X G dH,yg X G gQ,yg X G dG,yg X G dN,yg X G kD,yg X G mZ⟩;have lR:mg "str"=none:=yg X G dO;have jF:mg "zip"=none:=yg X G dQ;have lQ:mg "min"=none:=yg X G dM;have a9:mg "sum"=none:=yg X G dP;have mE:mg "abs"=none:=yg X G dF;have nk:mg "ValueError"=none:=yg X G nD;have n9:=yu X G oq;have pG:=yu X G oj;have fH:=yu X G ma;have pF:=yu X G l9;have pe:=yu X G iS;have oM:=yu X G k8;have n0:=yu X G oh;have nj:=yu X G nr;have n8:=yu X G om;have nR:=yu X G nU;have oN:=yu X G lE;have kM:=k9;have oE:=yu X G ja;have iL:=iT;have kK:=yu X G lD;have kY:=lH;have jG:=kn;have jH:=ko;have jI:=kq;have jJ:=kr;have jK:=ku;have jL:=kx;have jM:=kz;have jN:=kA;have jO:=kB;have jP:=kC;have kS:=lI;have kT:=lJ;have kU:=lK;have kW:=lL;have kX:=lM;have a8:=yu X G m_WS;have aT:=yu X G m_W0;have aU:=yu X G m_W1;have aW:=yu X G m_W2;have aX:=yu X G m_W3;have aY:=yu X G m_W4;have aZ:=yu X G m_W5;have fP:=yu X G m_W6;have a6:=yu X G m_W7;have M_W8:=yu X G m_W8;have a7:=yu X G m_W9;have gW:=yu X G cK;have gX:=yu X G cL;have aV:=yu X G cM;have gY:=yu X G cN;have jE:=t_CP.tx (yu X G m_CP);obtain⟨d_CP,I_CP⟩:=i_CP;obtain⟨dV_CP,D_CP⟩:=I_CP.F;obtain⟨fi_W4,di_W4,N_W4,FI_W4,B_W4⟩:=v_W4;have M_CD:=yu X G m_CD;have X_CD:=y_CD.tx;have M_CS:=yu X G m_CS;have X_CS:=dC.tx;have M_CT:=yu X G m_CT;have X_CT:=dD.tx;have M_CK:=yu X G m_CK;have X_CK:=y_CK.tx;obtain⟨fi_CS,di_CS,I_CS⟩:=b_CS;obtain⟨fi_CT,di_CT,I_CT⟩:=b_CT;obtain⟨fi_CK,di_CK,I_CK⟩:=b_CK;have oI:KTx K CK:=⟨X_CK.cl,cW,cX⟩;have N_CS:YG K CS "many":=cY;have gZ:=dC.dt cY;have N_CT:YG K CT "many":=cZ;have hU:=dD.dt cZ;obtain⟨f_S0,d_S0,F_S0⟩:=q_S0.fn (ps:=["self","sheet"]) (K1.lk2 fun _ _ _ _ _ _ _ _=>rfl);obtain⟨f_T0,d_T0,F_T0⟩:=q_T0.fn (ps:=["self","sheet"]) (K1.lk2 fun _ _ _ _ _ _ _ _=>rfl);obtain⟨f_K1,d_K1,F_K1⟩:=q_K1.fn (ps:=["self","row"]) (K1.lk2 fun _ _ _ _ _ _ _ _=>rfl);obtain⟨f_K2,d_K2,F_K2⟩:=q_K2.fn (ps:=["self"]) (K1.lk1 fun _ _ _ _ _ _ _=>rfl);obtain⟨f_K3,d_K3,F_K3⟩:=q_K3.fn (ps:=["self"]) (K1.lk1 fun _ _ _ _ _ _ _=>rfl);obtain⟨f_K4,d_K4,F_K4⟩:=q_K4.fn (ps:=["self","sheet"]) (K1.lk2 fun _ _ _ _ _ _ _ _=>rfl);obtain⟨f_K5,d_K5,F_K5⟩:=q_K5.fn (ps:=["self"]) (K1.lk1 fun _ _ _ _ _ _ _=>rfl);obtain⟨f_P0,d_P0,F_P0⟩:=q_P0.fn (ps:=["self"]) (K1.lk1 fun _ _ _ _ _ _ _=>rfl);obtain⟨f_P1,d_P1,F_P1⟩:=q_P1.fn (ps:=["self"]) (K1.lk1 fun _ _ _ _ _ _ _=>rfl);obtain⟨⟨fY,d_sheet_of,F_sheet_of⟩,⟨f_size,d_size,F_size⟩,⟨fR,d_back_row,F_back_row⟩,⟨jU,d_checked_rows,F_checked_rows⟩,⟨kG,d_has_each_once,F_has_each_once⟩,⟨fV,d_is_whole,F_is_whole⟩,⟨ij,d_is_square,F_is_square⟩,⟨jl,d_need_square,F_need_square⟩,⟨ie,d_groups_of,F_groups_of⟩,⟨iw,d_step_rows,F_step_rows⟩,⟨iX,d_paths_from,F_paths_from⟩,⟨iU,d_cycle_from,F_cycle_from⟩,⟨bF,d_cycles,F_cycles⟩,⟨lh,d_common_divisor,F_common_divisor⟩,⟨eI,d_word_of,F_word_of⟩,⟨ik,d_need_word,F_need_word⟩,⟨iW,d_need_place,F_need_place⟩,⟨ig,d_is_inside,F_is_inside⟩,⟨fW,d_need_way,F_need_way⟩,⟨mq,d_need_straight_way,F_need_straight_way⟩,⟨eG,d_sheared,F_sheared⟩,⟨bG,d_turned,F_turned⟩,⟨f_moved,d_moved,F_moved⟩,⟨iV,d_moved_once,F_moved_once⟩,⟨gb,d_to_level,F_to_level⟩,⟨jk,d_bands_along,F_bands_along⟩,⟨f_laid,d_laid,F_laid⟩,⟨f_shown,d_shown,F_shown⟩,⟨f_read,d_read,F_read⟩,⟨dZ,d_is_pair,F_is_pair⟩,⟨eB,d_is_word,F_is_word⟩,⟨fZ,d_signs_of,F_signs_of⟩,⟨iZ,d_squares_of,F_squares_of⟩,⟨iz,d_things_in,F_things_in⟩,⟨f_need,d_need,F_need⟩,⟨f9,d_thing_in,F_thing_in⟩,⟨eD,d_part_in,F_part_in⟩,⟨il,d_number_in,F_number_in⟩,⟨iY,d_renumbered,F_renumbered⟩,⟨ip,d_numbering,F_numbering⟩,⟨lp,d_is_renumbering,F_is_renumbering⟩,⟨lq,d_renumbered_row,F_renumbered_row⟩,⟨f_form,d_form,F_form⟩,⟨fU,d_compared,F_compared⟩,⟨nh,d_form_with_numbering,F_form_with_numbering⟩,⟨eE,d_reached,F_reached⟩,⟨f_put,d_put,F_put⟩,⟨dX,d_changed,F_changed⟩,⟨fX,d_sheet_in,F_sheet_in⟩,⟨dY,d_deed_in,F_deed_in⟩,⟨bE,d_answer,F_answer⟩,⟨iA,d_walk_text,F_walk_text⟩,⟨iu,d_same_text,F_same_text⟩,⟨iq,d_over_text,F_over_text⟩,⟨jS,d__law_cell_at,F__law_cell_at⟩,⟨jT,d__law_no_rows,F__law_no_rows⟩,⟨ji,d__law_faults,F__law_faults⟩,⟨ib,d__law_mark,F__law_mark⟩,⟨ic,d__law_told,F__law_told⟩,_⟩:=U1.fn X G _ RR;obtain⟨f_walk,d_walk,v_walk,F_walk⟩:=l8.fn X G;obtain⟨fL,dL,FL,aL,kV,doc,pm,an,pK,ct,eL⟩:=jD;have bL:=FL.binds (ps:=["_law_script"]) (K1.lk1 fun _ _ _ _ _ _ _=>rfl);have e:=hfa.symm.trans (yu X G aL);cases e;refine⟨dL,fun s v=>?_,fun base _ _=>?_⟩;subst eL;exact .of_eq rfl;have aB:Fn K mg "law" U0 ["_law_script"] fa dL:=⟨FL,bL,yu X G aL⟩;have hkv:=CO jG jH jI jJ jK jL jM jN jO jP kS kT kU kW kX;have XA0:=(⟨aT,aU,aW,aX,aY,aZ,fP,a6,M_W8,a7,gW,gX,aV,gY,nk⟩:XA5 mg (adv W0 W1 W2 W3 W4 W5 W6 W7 W8 W9 lS lT kZ lU));have XC0:=AC f_WS a8 (ad:=(adv W0 W1 W2 W3 W4 W5 W6 W7 W8 W9 lS lT kZ lU)) ⟨⟨⟨⟨⟨⟨⟨⟨⟨⟨⟨⟨⟨⟨trivial,f_W0⟩,f_W1⟩,f_W2⟩,f_W3⟩,f_W4⟩,f_W5⟩,f_W6⟩,f_W7⟩,f_W8⟩,f_W9⟩,bz⟩,bA⟩,bB⟩,bC⟩ sS sV sA nA h_W4 g_W4;have og:=El (P:=l.prog) (w:=w) (base:=base) T F_size;have fM:=FV (P:=l.prog) (w:=w) (base:=base) T F_is_square F_is_whole;have lP:=Ej (P:=l.prog) (w:=w) (base:=base) T F_is_square F_is_whole;have jy:=F4 T F_has_each_once F_is_square fM;have kN:=IF T e_W3 aX n9 F_checked_rows F_has_each_once jy;have oO:=Iw (P:=l.prog) (w:=w) (base:=base) T F_back_row;have iQ:=FD F_step_rows F_back_row oO;have iO:=F2 T F_paths_from F_step_rows iQ;have l7:=HW T F_groups_of F_size og F_paths_from iO;have aI:=BA (P:=l.prog) (w:=w) (base:=base) N_W4 j_WS a8 FI_W4;have G_so:=BD T N_W4 aY B_W4 aI F_sheet_of F_groups_of l7 F_checked_rows kN;have kP:=HX (P:=l.prog) (w:=w) (base:=base) pe F_signs_of;have jB:=HL (P:=l.prog) (w:=w) (base:=base) T pe F_is_word;have jA:=G5 T F_is_pair F_is_word jB;have mC:=Jd (P:=l.prog) (w:=w) (base:=base) pe F_squares_of;have iP:=B1 F_shown F_signs_of kP;have aM:=BM e_W2 aW F_read F_is_pair jA F_squares_of mC F_sheet_of G_so;have aF:=DD (P:=l.prog) (w:=w) (base:=base) F_cycle_from;have jx:=Gi T lQ F_cycles F_cycle_from aF;have gU:=Ci F_turned F_back_row oO;have G_Si:=Gs (P:=l.prog) (w:=w) (base:=base) (mg:=mg) gZ I_CS.F;have G_S0:=GD T gZ F_cycles jx F_S0;have G_Ti:=G2 (P:=l.prog) (w:=w) (base:=base) (mg:=mg) hU I_CT.F;have G_T0:=Hb T hU F_turned gU F_T0;have iN:=AY (P:=l.prog) (w:=w) (base:=base) e_W0 aT F_need;have aG:=AL T lR oM n0 F_need iN F_number_in;have aE:=zt (P:=l.prog) (w:=w) (base:=base) mE F_common_divisor;have fK:=DP jE e_W9 a7 D_CP F_common_divisor aE;have aO:=AG (P:=l.prog) (w:=w) (base:=base) jE lR F_P1;have J:=I_CP.b1.choose_spec;have G_pn:=AZ T jE I_CP.M I_CP.b J fK F_P1 aO F_need iN F_number_in aG F_part_in;have G_ti:=AB T pe nj n8 F_need iN F_number_in aG F_part_in G_pn F_thing_in;have G_ts:=BO T jF oE iL hkv F_need iN F_thing_in G_ti F_things_in;have aQ:=Bl F_read aM F_sheet_in;have G_di:=zq I_CS.M M_CS I_CS.b G_Si I_CT.M M_CT I_CT.b G_Ti F_deed_in;have G_ch:=Ct X_CS.cl X_CT.cl F_S0 G_S0 F_T0 G_T0 F_sheet_in aQ F_deed_in G_di F_changed;have aR:=B3 (P:=l.prog) (w:=w) (base:=base) jE F_P0;have G_in:=Bg jE F_P0 aR F_is_inside;have G_np:=Bw e_W5 aZ F_need_place F_is_square lP F_size og F_is_inside G_in;have aJ:=Bu (P:=l.prog) (w:=w) (base:=base) mE br fP pF F_need_way;have aH:=BN br fP F_need_straight_way F_need_way aJ F_common_divisor aE;have G_wr:=AS F_walk F_need_place G_np F_need_way aJ;have G_tl:=BP F_need_straight_way aH F_to_level;have G_bl:=B5 F_to_level G_tl F_moved F_word_of F_bands_along;have jw:=EZ (P:=l.prog) (w:=w) (base:=base) T F_back_row;have fN:=Dg bo gX F_need_square F_size og F_is_square lP;have fO:=DX T F_numbering F_need_square fN F_back_row jw;have jC:=He T F_renumbered_row F_back_row jw;have iM:=Hq T F_is_renumbering F_size og F_has_each_once jy;have aN:=Df bj gW F_renumbered F_is_renumbering iM F_renumbered_row jC;have G_fw:=zE T lQ F_form_with_numbering F_size og F_numbering fO F_renumbered aN;have G_fm:=zK F_form F_form_with_numbering G_fw;have aP:=A6 T F_sheared F_back_row oO;have G_m1:=yW F_moved_once F_sheared aP F_turned gU;have G_nd:=Aw (P:=l.prog) (w:=w) (base:=base) T bp gY oN kM pG F_need_word;have G_md:=zQ F_moved F_need_word G_nd F_moved_once G_m1;have aK:=B2 (P:=l.prog) (w:=w) (base:=base) T e_W7 a6 F_put;have G_re:=Cc T F_reached F_put aK F_form G_fm F_moved G_md;have G_an:=AJ T lR F_bands_along G_bl F_walk G_wr F_walk_text F_sheet_in aQ F_same_text F_compared F_reached G_re F_over_text F_laid F_answer;have G_Ki:=zI oI nR F_read aM I_CK.F;have G_K2:=Cr (P:=l.prog) (w:=w) (base:=base) (mg:=mg) oI F_K2;have G_K3:=Cy (P:=l.prog) (w:=w) (base:=base) T oI F_K3;have G_K4:=Bb (P:=l.prog) (w:=w) (base:=base) (mg:=mg) oI F_K4;have G_K5:=Bk (P:=l.prog) (w:=w) (base:=base) T e_W1 aU oI F_K5;have aD:=AI oI kK kY F_things_in G_ts F_K4 G_K4 F_K5 G_K5 F_answer G_an F_changed G_ch F_shown iP F_K1;have G_mk:=Bj (P:=l.prog) (w:=w) (base:=base) T a9 XA0 F__law_mark;have G_to:=Cu oI XA0 XC0 F_K1 aD F__law_mark G_mk F__law_told;have G_ca:=Ca (P:=l.prog) (w:=w) (base:=base) T F__law_cell_at;have G_nr:=Bf (P:=l.prog) (w:=w) (base:=base) F__law_no_rows;have G_fa:=CL (P:=l.prog) (w:=w) (base:=base) F__law_faults;exact Ba (ad:=adv W0 W1 W2 W3 W4 W5 W6 W7 W8 W9 lS lT kZ lU) T lR oI I_CK.M M_CK I_CK.b G_Ki F_K1 aD F_K2 G_K2 F_K3 G_K3 F__law_no_rows G_nr F__law_faults G_fa F__law_cell_at G_ca F__law_told G_to aB
theorem walk {l:PySem.W.OpenLaw}{q:uE}{loose:List Str}{XP:(Str->Option uT)->Heap->Prop}{YP:uw->Heap->Prop}{d:DefRec}{K:Params->yS}(hn:l.most=some 63)(bZ:d.params.defaults=[])
  (hY:∀ (w:uw) (h:Heap),YP w h->(K w.params).In h)
  (F:∀ (w:uw) (mg:Str->Option uT) (fa:Addr) (h:Heap),(K w.params).In h->h.Ns uG mg->mg d.name=some (.ref fa)->
   ∃ fd:uC,(∀ (s:uS) (u:uT),qe s fd ⟨[u],[]⟩ [("_law_script",u)])/\∀ base:Heap,(K w.params).In base->base.Ns uG mg->Z6 l.prog w (K w.params) mg base CX0 12 fa fd ["_law_script"] (Rl (K w.params))) :
  PySem.W.WalkO q loose XP YP l.row.toRowW d [] (fun f vs=>PySem.call f vs):=
 L2.Dc (n:=63) (k:=12) (x:="_law_script") (CX:=fun _=>CX0) (sp:=fun w=>Rl (K w.params)) hn (by decide) bZ ⟨rfl,by decide,by decide⟩ hY F (fun _ _ a ns hl _ hS=>⟨a,ns,rfl,hS,fun _=>rfl⟩) fun _ _ _ _ _ z=>z
end K1
open PySem PySem.W PyProof.Rows
set_option maxRecDepth 100000 in
set_option maxHeartbeats 0 in
theorem PySem.Challenge.cw_squaresheet_k95_desk_refused_holds : PySem.Challenge.rw_squaresheet_k95_desk_refused.Holds := by
 refine hd95 ?_
 k_fill
 refine K1.walk (l:=rG) rfl rfl (fun w h Y=>PySem.W.kIn_of Y) ?F
 case F=>
  intro w mg fa h KX G cx;have l8:L2.Tu (L2.KOf KX) "walk" K1.TV ["sheet","place","p","q","steps"] (.int 1):=by
   dsimp only [L2.KOf];refine' L2.EU ?a ?l ?c ?k ?t ?r ?b2 ?b1
   (case a=>k_is);(case l=>k_is);(case c=>k_is);(case k=>k_is);(case t=>k_is);(case r=>exact⟨_,Z⟩)
   (case b2=>intro s hK y0 y1 y2 y3 y4;exact vn hK rfl (by k_is) rfl rfl rfl);(case b1=>intro s hK y0 y1 y2 y3;exact vn hK rfl (by k_is) rfl rfl rfl)
  have jD:K1.Raw (L2.KOf KX) "law" K1.U0:=by
   dsimp only [L2.KOf];refine' K1.La ?a ?l ?c ?k
   (case a=>k_is);(case l=>k_is);(case c=>k_is);(case k=>k_is)
  refine' K1.AN KX G cx ?_ l8 jD ?_ ?_ ?_ ?_ ?_ ?_ ?_ ?_ ?_ ?_ ?_ ?_ ?_ ?_ ?_ ?_ ?_ ?_ ?_ ?_ ?_ ?_ ?_ ?_ ?_ ?_ ?_ ?_ ?_ ?_ ?_ ?_ ?_ ?_ ?_ ?_ ?_ ?_ ?_ ?_ ?_ ?_ ?_ ?_ ?_ ?_ ?_ ?_ ?_ ?_ ?_ ?_ ?_ ?_ ?_ ?_ ?_ ?_ ?_ ?_ ?_ ?_ ?_ ?_ ?_ ?_ ?_ ?_ ?_ ?_ ?_ ?_ ?_ ?_ ?_ ?_ ?_ ?_ ?_ ?_ ?_ ?_ ?_ ?_ ?_ ?_ ?_ ?_ ?_ ?_ ?_ ?_ ?_ ?_ ?_ ?_ ?_ ?_ ?_ ?_ ?_ ?_ ?_ ?_ ?_ ?_ ?_ ?_ ?_ ?_ ?_ ?_ ?_ ?_ ?_ ?_ ?_ ?_ ?_ ?_ ?_ ?_ ?_ ?_
  any_goals first|k_is|(unfold L2.Zk;k_exc)|(refine' ⟨?_,?_,?_,?_,?_,?_,?_,?_,?_⟩<;>k_is)|(refine' K1.DN ?a ?i ?l ?c ?k;(case a=>k_is);(case i=>k_is);(case l=>k_is);(case c=>k_is);(case k=>k_is))|(refine' L2.tts0 ?l;(case l=>k_is))|(refine' L2.tts1 ?l;(case l=>k_is))|(refine' L2.tts2 ?l;(case l=>k_is))|(refine' L2.tts4 ?l;(case l=>k_is))|(refine' L2.tts6 ?l;(case l=>k_is))|(refine' ⟨?_,?_,?_,?_,?_,?_,?_,?_,?_,?_,?_⟩<;>k_is)|(refine' ⟨?_,?_,?_,?_,?_,?_,?_,?_,?_,?_⟩<;>k_is)|(refine' K1.Em ?mk ?kc ?a ?i ?l ?c ?k ?t;(case mk=>k_is);(case kc=>k_is);(case a=>k_is);(case i=>k_is);(case l=>k_is);(case c=>k_is);(case k=>k_is);(case t=>k_is))|(refine' ⟨?_,?_,?_⟩<;>k_is)|(refine' K1.AD ?mk ?kc ?a ?i ?l ?c ?k ?b;(case mk=>k_is);(case kc=>k_is);(case a=>k_is);(case i=>k_is);(case l=>k_is);(case c=>k_is);(case k=>k_is);(case b=>exact (K1.lk2 fun _ _ _ _ _ _ _ _=>rfl)))|(refine' K1.Do ?mk ?kc ?a ?i ?l ?c ?k ?b;(case mk=>k_is);(case kc=>k_is);(case a=>k_is);(case i=>k_is);(case l=>k_is);(case c=>k_is);(case k=>k_is);(case b=>exact (K1.lk1 fun _ _ _ _ _ _ _=>rfl)))|(refine' K1.Bd ?i ?ex ?sa ?mo ?na ?kp ?fn ?l ?c ?k ?b;(case i=>k_is);(case ex=>kernel_rfl);(case sa=>k_is);(case mo=>k_is);(case na=>k_is);(case kp=>k_is);(case fn=>k_is);(case l=>k_is);(case c=>k_is);(case k=>k_is);(case b=>exact (K1.lk2 fun _ _ _ _ _ _ _ _=>rfl)))|(refine' L2.tdi2 ?hs ?l ?e1 ?e2 ?ne;(case hs=>decide);(case l=>k_is);(case e1=>rfl);(case e2=>rfl);(case ne=>decide))|(refine' L2.Ak ?hs ?l ?e1 ?e2 ?e3 ?e4 ?e5 ?e6 ?e7 ?e8 ?e9 ?e10 ?e11 ?e12 ?e13 ?e14 ?e15 ?nd;(case hs=>decide);(case l=>k_is);(case e1=>rfl);(case e2=>rfl);(case e3=>rfl);(case e4=>rfl);(case e5=>rfl);(case e6=>rfl);(case e7=>rfl);(case e8=>rfl);(case e9=>rfl);(case e10=>rfl);(case e11=>rfl);(case e12=>rfl);(case e13=>rfl);(case e14=>rfl);(case e15=>rfl);(case nd=>decide +kernel))|((repeat' (first|exact trivial|refine' ⟨?_,?_⟩|(dsimp only [K1.adv];k_is)));done)|(decide;done)|((repeat' (first|(refine' K1.La ?a ?l ?c ?k;(case a=>k_is);(case l=>k_is);(case c=>k_is);(case k=>k_is))|refine' ⟨?_,?_⟩|exact (K1.lk1 fun _ _ _ _ _ _ _=>rfl)|exact (K1.lk2 fun _ _ _ _ _ _ _ _=>rfl)|exact (K1.lk0 fun _ _ _ _ _ _=>rfl)|exact (K1.lk3 fun _ _ _ _ _ _ _ _ _=>rfl)|exact (K1.lk4 fun _ _ _ _ _ _ _ _ _ _=>rfl)|exact trivial));done)
#print axioms PySem.Challenge.cw_squaresheet_k95_desk_refused_holds
