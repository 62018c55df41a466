import PyProof.Rows.All
import Wide.All
import OpenK.AllK
import Wide.FinOn
import Lean
import PyProof.EqAt
import PyProof.EqKinds
import PyProof.TupleCall
import PySem.Challenge.RW_cartelship_k40_a_book_without_room
set_option Elab.async false
set_option compiler.extract_closed false
section Hd
open PySem PySem.W PyProof.Rows
namespace PySem.W.Fast
def tw1000662321505670351:=()
def tw10052031235695348791:=()
def tw10085292869130188298:=()
def tw10094733558918713432:=()
def tw1010972086116683374:=()
def tw10146569101766770184:=()
def tw10149570385669482864:=()
def tw10151330197121100416:=()
def tw10159399881129095643:=()
def tw10161179621583223854:=()
def tw10164718903369591474:=()
def tw10186303709888756887:=()
def tw10198052994689861382:=()
def tw10236332898609347644:=()
def tw10293081186089767411:=()
def tw10295913840692754127:=()
def tw10297410513487048360:=()
def tw10310341975313369176:=()
def tw10312438410070409164:=()
def tw10341888390210383824:=()
def tw10373885705245885314:=()
def tw10374632558016547081:=()
def tw10406584006884427733:=()
def tw1045582712504079209:=()
def tw10470340158578859262:=()
def tw10510019762269167821:=()
def tw10510056951384868246:=()
def tw10539347186207431242:=()
def tw10550934584343373414:=()
def tw10551173667578312727:=()
def tw10576836333797772347:=()
def tw10611411778653204182:=()
def tw1062514266329012355:=()
def tw10713865542653931438:=()
def tw10741264400317747893:=()
def tw10799429511968010386:=()
def tw10826640976665885199:=()
def tw10842938092177581297:=()
def tw10851082721055443051:=()
def tw10876078143196172821:=()
def tw10879749546641988924:=()
def tw10911716485165742097:=()
def tw10921404820163398068:=()
def tw10953238642706405951:=()
def tw10956520680868813917:=()
def tw10988312798546598065:=()
def tw11024694936033576346:=()
def tw11038752745809355942:=()
def tw11063759124802658401:=()
def tw11066385474520676512:=()
def tw11076892268299887525:=()
def tw11078473246598507814:=()
def tw11095110211248682772:=()
def tw11107512795663914464:=()
def tw11153126096140912846:=()
def tw11205608169257636508:=()
def tw11207431853666184334:=()
def tw11215392098479208961:=()
def tw11219443903484984970:=()
def tw1125065396945160393:=()
def tw11272164335830466941:=()
def tw11317637306720784765:=()
def tw11368310244458860372:=()
def tw11402884983299125971:=()
def tw11408881796089955267:=()
def tw11421057715548341654:=()
def tw1142673529048489019:=()
def tw11434409910335936926:=()
def tw11481637867367846703:=()
def tw11489344026974618541:=()
def tw1149798457248472902:=()
def tw11513857634932158529:=()
def tw11526606772788702011:=()
def tw11566098044289413073:=()
def tw11657350159256941575:=()
def tw11662115353561507501:=()
def tw11692469974320434101:=()
def tw11738243743197964597:=()
def tw11757307120078846540:=()
def tw11766667032028208565:=()
def tw11788636936952823106:=()
def tw1180504863943622396:=()
def tw1181674027530198351:=()
def tw11823594873375168262:=()
def tw11824586356888161845:=()
def tw11837218909656210887:=()
def tw11844019762684407370:=()
def tw11853640710764476214:=()
def tw11898673842065290130:=()
def tw11907897558876765624:=()
def tw11911167908941700269:=()
def tw1191606094355005428:=()
def tw11962351593759143498:=()
def tw1198783387198779033:=()
def tw12020253756985099128:=()
def tw12041797014711123256:=()
def tw1205274952441263945:=()
def tw1205604411410820431:=()
def tw12064304430848566033:=()
def tw1207101557538958131:=()
def tw12076989928817844590:=()
def tw12091442091272426231:=()
def tw12125097214300078407:=()
def tw12132596417379514657:=()
def tw12132732476715806282:=()
def tw12140563180475188368:=()
def tw12188032599808994241:=()
def tw12269216009862288129:=()
def tw12297992134047619483:=()
def tw12325864989022198202:=()
def tw12330612334027959195:=()
def tw12362610545917648234:=()
def tw12369848792361866835:=()
def tw12382822922155266910:=()
def tw12408111787983249662:=()
def tw12435058653956393420:=()
def tw12459912946257978736:=()
def tw12461081396071149458:=()
def tw12468840222048715292:=()
def tw12477129341811645039:=()
def tw12488014758255163090:=()
def tw12524954882073270795:=()
def tw12528221419883600679:=()
def tw12528533614272120300:=()
def tw12550775161083096063:=()
def tw12601900475763903673:=()
def tw12681666616541194006:=()
def tw12715800853834201459:=()
def tw12727641955093265886:=()
def tw12738610918357793766:=()
def tw12740759652641322565:=()
def tw12768989823518198380:=()
def tw12772213712371865176:=()
def tw12773500944031208451:=()
def tw12798174099139212305:=()
def tw1293241653719404408:=()
def tw12936088452001202715:=()
def tw12960429369202013873:=()
def tw13032259773685033708:=()
def tw13034982811429478159:=()
def tw13037599305520519465:=()
def tw13053394406489344094:=()
def tw13053770412826190925:=()
def tw13055953723892786844:=()
def tw13069393092227542028:=()
def tw13073492499399858440:=()
def tw13082796549270168242:=()
def tw13127508451798649013:=()
def tw13134858744069518954:=()
def tw13142635158332540280:=()
def tw13164499291161521807:=()
def tw13205091638197436094:=()
def tw13215348057498601715:=()
def tw13255938527306859382:=()
def tw13257414776242894994:=()
def tw13298828918039433023:=()
def tw13303234937177203706:=()
def tw13313058339493701161:=()
def tw13343918040275786880:=()
def tw13348088958985639553:=()
def tw13349420017058727143:=()
def tw13367274342830030513:=()
def tw13374226786849659508:=()
def tw13384656265869573321:=()
def tw13394580363473044415:=()
def tw1342123614928995077:=()
def tw13421457143807847188:=()
def tw13437419889732721216:=()
def tw13444670453868202053:=()
def tw13465540834166320765:=()
def tw13468011388731342839:=()
def tw13539809779269347639:=()
def tw13547939009206843870:=()
def tw13557862171009465336:=()
def tw13567515925198824819:=()
def tw13571862603940711859:=()
def tw13601115934706021691:=()
def tw13669536469129627823:=()
def tw13674586047789940208:=()
def tw13705283562680751584:=()
def tw13710940844802916613:=()
def tw13757698761724263525:=()
def tw13769103115541136327:=()
def tw13810262117814702294:=()
def tw13812277999558781770:=()
def tw13813548295540068894:=()
def tw13813618637161013713:=()
def tw13851971633180934007:=()
def tw13855379610559885079:=()
def tw13872120688422071045:=()
def tw13913613514976480042:=()
def tw13953587524928339648:=()
def tw13956191218907399338:=()
def tw140001813534094272:=()
def tw1401067106901849026:=()
def tw14022695629967993375:=()
def tw140236481695663071:=()
def tw14028423401847578986:=()
def tw14074196154385387334:=()
def tw14081431093454284249:=()
def tw14154597600763967237:=()
def tw14170518179582410385:=()
def tw14172470266813156586:=()
def tw14173793092197918974:=()
def tw14196522196718054806:=()
def tw14201004317487731011:=()
def tw14202271707224943307:=()
def tw14241875131585104807:=()
def tw14257035121206530791:=()
def tw14284835775768690865:=()
def tw14294133066467233204:=()
def tw14321067358777074657:=()
def tw14329579894275425762:=()
def tw14341141199694864594:=()
def tw14372219517969529114:=()
def tw14383122354028845282:=()
def tw14391293386007564604:=()
def tw14404928986312190071:=()
def tw1442379640649564109:=()
def tw14441679199631801671:=()
def tw14479964200598819128:=()
def tw14537775516033599862:=()
def tw14538010974564807823:=()
def tw14538725608371270373:=()
def tw14540961386073393648:=()
def tw14556482736207283325:=()
def tw14560624547652848805:=()
def tw14564555370662651082:=()
def tw14569604634059749682:=()
def tw14577027041581768965:=()
def tw14592624751514493413:=()
def tw14607143338591219252:=()
def tw14611616552423853409:=()
def tw14664691819916384248:=()
def tw14689541978594310382:=()
def tw14703100239697439463:=()
def tw14715273107921467267:=()
def tw14727194681476072466:=()
def tw1474264761786122189:=()
def tw14746253646979254834:=()
def tw14760874974797668852:=()
def tw14801369171006070438:=()
def tw14811890972901180937:=()
def tw14827714588952709054:=()
def tw14833712730911297017:=()
def tw14842496431369740429:=()
def tw14847308668706973960:=()
def tw14859695947638507448:=()
def tw14903569129155370506:=()
def tw14904681115217272601:=()
def tw14934011241717051027:=()
def tw14935467056822913822:=()
def tw14958820412457663293:=()
def tw1495895850433845275:=()
def tw14995258362815363992:=()
def tw15012102849882553082:=()
def tw15042883488752021643:=()
def tw15052318979288761249:=()
def tw15125770126966510544:=()
def tw15127105006835628225:=()
def tw15142666989864626641:=()
def tw15150329256914348856:=()
def tw15166322114958858414:=()
def tw1517009173149250642:=()
def tw15171223727094530161:=()
def tw15227483606004533461:=()
def tw15235614512728720:=()
def tw15240619367488684849:=()
def tw15254633091992210921:=()
def tw1532491051758110099:=()
def tw1537541725227008683:=()
def tw15401437161963490237:=()
def tw15402603294489630176:=()
def tw15415318616479256277:=()
def tw15418378422589880096:=()
def tw15418674001244492974:=()
def tw15433366417846715934:=()
def tw15438627641174518403:=()
def tw15475723433398761304:=()
def tw15495752065017430504:=()
def tw15499940227032437249:=()
def tw15504105790966721872:=()
def tw15539815450414544023:=()
def tw15540960557679751451:=()
def tw15554417296805563061:=()
def tw15565715512253457277:=()
def tw15577281813014381367:=()
def tw15593559885672580101:=()
def tw15621116118777243554:=()
def tw15627779663793561183:=()
def tw15675013803050531044:=()
def tw15685335758407661847:=()
def tw15699961213505342161:=()
def tw15743010393045028110:=()
def tw15763482434359817770:=()
def tw15764947353670896545:=()
def tw15771247859494662083:=()
def tw15779231459743154856:=()
def tw15792790952358468732:=()
def tw15870398105094248349:=()
def tw15895094517606616290:=()
def tw15910123707662034135:=()
def tw15917658305576242666:=()
def tw15925456577456769635:=()
def tw15978794797337165890:=()
def tw16003985067176294414:=()
def tw16005714805435085966:=()
def tw16011428029765260039:=()
def tw16035376269474964883:=()
def tw16053306600634468012:=()
def tw16060203290454839817:=()
def tw1607123104830579860:=()
def tw16086907953836968628:=()
def tw16103829930404553856:=()
def tw16140922888777852060:=()
def tw16151628708876355199:=()
def tw16212330677787901120:=()
def tw16226643914720891334:=()
def tw16232239604740543338:=()
def tw16247262843940693239:=()
def tw16279288168775177219:=()
def tw16298917771340976007:=()
def tw1630143524128594353:=()
def tw16309811473084048462:=()
def tw16378183091871739711:=()
def tw16412085850373738351:=()
def tw16493865465440409018:=()
def tw16522183678017940807:=()
def tw16531682779099013679:=()
def tw16607193741793207195:=()
def tw16615150188913437886:=()
def tw16626521671886133394:=()
def tw16654469307462801742:=()
def tw16670193898709178398:=()
def tw16670775579421159206:=()
def tw16681507383918705554:=()
def tw16682895059504647277:=()
def tw16691165463884887630:=()
def tw16721508838639397229:=()
def tw16723463757517087524:=()
def tw16728255500844073214:=()
def tw16746677531222629524:=()
def tw16753820520455620202:=()
def tw16756451883985382160:=()
def tw16765560720781731146:=()
def tw16792556548410726896:=()
def tw16797375974695604193:=()
def tw1683588176727124409:=()
def tw16851755793618046597:=()
def tw16902440903046159558:=()
def tw1692201390411429781:=()
def tw16947231599799070506:=()
def tw16955839230299176341:=()
def tw16998588944726240723:=()
def tw17029562028150658980:=()
def tw17079817176256170043:=()
def tw17082689572870858151:=()
def tw17155049476370652306:=()
def tw17163426234232328066:=()
def tw17170472223608059050:=()
def tw1717767836212652739:=()
def tw17187875760726034783:=()
def tw17214186515701724070:=()
def tw1725486776273817318:=()
def tw17267597263503486738:=()
def tw17271881437230615512:=()
def tw17284588472162393981:=()
def tw17292613610259460706:=()
def tw17312402878845073609:=()
def tw17318462890700432884:=()
def tw17334828202450815106:=()
def tw17346623794827051843:=()
def tw1736008452689052559:=()
def tw17397653436517662659:=()
def tw17410218998227585676:=()
def tw17431205604353252913:=()
def tw1746151400102762189:=()
def tw17472340661787783526:=()
def tw17499849576073844966:=()
def tw17508347553164502932:=()
def tw17510684818845775701:=()
def tw17512793052788017329:=()
def tw17577329170770402720:=()
def tw17590705303994421779:=()
def tw17590876675597686902:=()
def tw17592209452093105858:=()
def tw17614877247268290040:=()
def tw17658959251048325594:=()
def tw17678831435119133177:=()
def tw17680797132471856694:=()
def tw17713387462200973399:=()
def tw17731313482808627303:=()
def tw17760279517084355780:=()
def tw17823556299335049440:=()
def tw17862349074038704544:=()
def tw17871049288011112270:=()
def tw17883462748017686043:=()
def tw17951090304560329564:=()
def tw17963105932079019327:=()
def tw17986951261819808105:=()
def tw18003772858949239459:=()
def tw180266875558373844:=()
def tw18031968618487185184:=()
def tw18048741565030583774:=()
def tw18060508904421208200:=()
def tw18073898193381586223:=()
def tw18094105663378112561:=()
def tw18095796173783872564:=()
def tw18101783494082082527:=()
def tw18124618509676941091:=()
def tw18248855084332350957:=()
def tw18254533201907969574:=()
def tw182723221234572337:=()
def tw18293242582946804979:=()
def tw18310463660012746435:=()
def tw18328257000508772394:=()
def tw18333273249017474000:=()
def tw1835071406663858368:=()
def tw1835201335921387983:=()
def tw18361725300881549022:=()
def tw18367749455379333440:=()
def tw18383651708701053236:=()
def tw18400553757987027518:=()
def tw1840220198017710270:=()
def tw18441984877410159329:=()
def tw1866716027138748530:=()
def tw1887573119177674980:=()
def tw1891733041441978011:=()
def tw1915925776726481438:=()
def tw1932759071263863916:=()
def tw1972164579936704799:=()
def tw1979317910248211280:=()
def tw1986786360949550309:=()
def tw2015444344454546412:=()
def tw2041926188850086339:=()
def tw2080317491765294665:=()
def tw2084650752826471497:=()
def tw2087409540819079288:=()
def tw2107523057676978006:=()
def tw211337195705725219:=()
def tw2132029292895624192:=()
def tw2132705950376112619:=()
def tw2144661209622563809:=()
def tw2213964242967304950:=()
def tw2228412568605170491:=()
def tw2238811745713579835:=()
def tw2244103112122482387:=()
def tw2259672571474061568:=()
def tw2261719852989239553:=()
def tw2275282789119773048:=()
def tw2310853497090360408:=()
def tw2323540548168759778:=()
def tw2333105410213810865:=()
def tw2333531293284704758:=()
def tw2353497105660221152:=()
def tw2358075552688931204:=()
def tw2369294140325686055:=()
def tw2386784164831690217:=()
def tw2399617604181995578:=()
def tw2400638427578300857:=()
def tw2424988045566436242:=()
def tw2455152089536381482:=()
def tw2466311954974566718:=()
def tw247591363613054380:=()
def tw2527701527901579348:=()
def tw256182404569192445:=()
def tw256976265262469064:=()
def tw2570914705882880060:=()
def tw2576523973992343609:=()
def tw2595585439558603231:=()
def tw2595618661548880785:=()
def tw2620783220990379173:=()
def tw2638924239945547994:=()
def tw2646887283097553488:=()
def tw2652477556369996664:=()
def tw2692750590507578028:=()
def tw2696227563706503283:=()
def tw2708214617527550399:=()
def tw2741014181512449073:=()
def tw2759284407945088205:=()
def tw2773992215795510196:=()
def tw2789304352393801511:=()
def tw28018229315631829:=()
def tw2810200551564342888:=()
def tw2827255003249426055:=()
def tw2846267367221353805:=()
def tw2868788209673775175:=()
def tw2869065659524454656:=()
def tw2870957612703475602:=()
def tw2894314189432023629:=()
def tw2900759804662662550:=()
def tw2925816871977632210:=()
def tw2956708394376553000:=()
def tw2983494736656345032:=()
def tw2990168724187919761:=()
def tw2997480634906808460:=()
def tw2997492091776894028:=()
def tw3035847785700592494:=()
def tw306047672372848657:=()
def tw3099597729799864441:=()
def tw3110587219445414310:=()
def tw3198059409981156222:=()
def tw3214969091617688553:=()
def tw3215387988796971590:=()
def tw3236729772642805936:=()
def tw3256386593595896250:=()
def tw3270257207059953099:=()
def tw3300257896294614128:=()
def tw3303267245142563540:=()
def tw3308634892276815127:=()
def tw3328811466098603303:=()
def tw3361968632180701959:=()
def tw3365755272349913518:=()
def tw3374319085511977134:=()
def tw3419001889969749887:=()
def tw3431730946639244569:=()
def tw3433779192033484610:=()
def tw3436067635600285980:=()
def tw3438699932752214802:=()
def tw3456351732281881909:=()
def tw3481832742750146777:=()
def tw3532419053487318765:=()
def tw354308444213283272:=()
def tw3543459598558145280:=()
def tw3581434408401558974:=()
def tw3603697650439363286:=()
def tw3641951560692057861:=()
def tw3652199383789512132:=()
def tw3671519592330383864:=()
def tw3673916228995581342:=()
def tw3676754643040562684:=()
def tw375148617187948888:=()
def tw376983999666122830:=()
def tw3831019782443316194:=()
def tw384561282630992784:=()
def tw3897268976836264337:=()
def tw3931137968748600043:=()
def tw3953844824629472508:=()
def tw3971525946579005399:=()
def tw3981977580325598530:=()
def tw3985964047577975286:=()
def tw4015202173357781934:=()
def tw402139726102294341:=()
def tw4026147355466621588:=()
def tw4039707410889071942:=()
def tw4046790133079468173:=()
def tw4051853165826885262:=()
def tw4063829332388037331:=()
def tw4091352561680426876:=()
def tw4102176305081739490:=()
def tw416199725167544944:=()
def tw4163956849929007166:=()
def tw4171853373547519906:=()
def tw4186743451310774866:=()
def tw424408320835691240:=()
def tw4244922878905308065:=()
def tw4261866804343366188:=()
def tw4267111383703672358:=()
def tw4290864757253303354:=()
def tw4321966507151631593:=()
def tw4323258101793500111:=()
def tw4327107012436481372:=()
def tw4382473104129494423:=()
def tw4408816720484365081:=()
def tw4413860948169739490:=()
def tw4449297822257671152:=()
def tw4449799235075362730:=()
def tw446995266069924076:=()
def tw4470585836733325578:=()
def tw4493901809537577575:=()
def tw4512776594637900181:=()
def tw4538635040379822027:=()
def tw4545961482378311905:=()
def tw4561898282857576226:=()
def tw4600438763894957952:=()
def tw4607425872040536859:=()
def tw4683681711962371626:=()
def tw4684226298888400098:=()
def tw4693966885379303072:=()
def tw4699756791338806529:=()
def tw4704452742865826424:=()
def tw473948556099728814:=()
def tw4757880891971583632:=()
def tw4766597723019941021:=()
def tw4772062507164038959:=()
def tw4804111812005502284:=()
def tw4849480874435393781:=()
def tw4858918184162951299:=()
def tw4860023922305330110:=()
def tw4884199854448574:=()
def tw4903002758410956813:=()
def tw4906484309439969231:=()
def tw4938610541543285704:=()
def tw4953865588907285216:=()
def tw4991487270385306882:=()
def tw4993863958327201973:=()
def tw5000232492035539693:=()
def tw5002640475654186023:=()
def tw5019544711922104826:=()
def tw5037459499596335280:=()
def tw5055593616971399804:=()
def tw5072417060200589145:=()
def tw5101696844757716304:=()
def tw5128061309963564778:=()
def tw5137589814051832496:=()
def tw5171440476677080432:=()
def tw5205737364524765896:=()
def tw5217270863462422736:=()
def tw5221592684559293012:=()
def tw5226586810942512283:=()
def tw523537741815420091:=()
def tw5239429619861171699:=()
def tw5269183497594736927:=()
def tw5278154662435632464:=()
def tw5285915839522022235:=()
def tw5306753302271460952:=()
def tw5322009542560784348:=()
def tw5323657890516693427:=()
def tw5338801713223979382:=()
def tw5364010647548929812:=()
def tw5369961537445033690:=()
def tw5371794888043636658:=()
def tw5376530373609499990:=()
def tw5388589039460942527:=()
def tw5395340147747708899:=()
def tw539538531456391632:=()
def tw542563422162235373:=()
def tw5438652380644606353:=()
def tw54454478416044229:=()
def tw5459702643516471331:=()
def tw5462360663327728810:=()
def tw5467331546851215429:=()
def tw547895379624588593:=()
def tw5498123283257192965:=()
def tw5515903443438498500:=()
def tw5557064270238477050:=()
def tw5604844568242257923:=()
def tw5610444585433571239:=()
def tw5622701340561072331:=()
def tw5649666937502919571:=()
def tw5662061979359257339:=()
def tw5665240888008139550:=()
def tw5694767641087392711:=()
def tw5702276774652866934:=()
def tw5723476159079860079:=()
def tw5725222548895626118:=()
def tw5741263409437251658:=()
def tw5748170370737335489:=()
def tw577049184839899653:=()
def tw578191462805490351:=()
def tw5783627655825047438:=()
def tw5832305185047221409:=()
def tw5845002605336314091:=()
def tw5874822333441161849:=()
def tw5890639436620234070:=()
def tw5909976876416983842:=()
def tw593343749668468936:=()
def tw5953359166732830163:=()
def tw5960047855520388891:=()
def tw5994696166404524948:=()
def tw599730875272715187:=()
def tw6010092931893058622:=()
def tw6044648929357246223:=()
def tw6046103115902281144:=()
def tw6056707288978253535:=()
def tw6105849179199505303:=()
def tw6124413428159637790:=()
def tw6125853113672642322:=()
def tw6148498323302512570:=()
def tw6170744672141170255:=()
def tw6194202620331982285:=()
def tw6229817132586351632:=()
def tw6248682570935725439:=()
def tw6284410105664486691:=()
def tw628631919661052299:=()
def tw6325675986683464353:=()
def tw6327569006664949090:=()
def tw6338894885288841830:=()
def tw6356304189028158447:=()
def tw6369209040635485196:=()
def tw640624198105042115:=()
def tw6408400580700104982:=()
def tw643336161829623379:=()
def tw6469784823511061222:=()
def tw6479498380439682318:=()
def tw6508132753307246276:=()
def tw6522051377940421278:=()
def tw6526287140368922620:=()
def tw6549852094080907030:=()
def tw6565414023582247074:=()
def tw6575520176995025181:=()
def tw6597789921013551971:=()
def tw6607644564249050058:=()
def tw6662985444165155115:=()
def tw6686765236720167877:=()
def tw6690350156832105676:=()
def tw6701911527682315725:=()
def tw6714880395473160397:=()
def tw6733606326906232124:=()
def tw6751970477201280107:=()
def tw6782663255696616371:=()
def tw6822071536725586909:=()
def tw6828597562223498359:=()
def tw6851275008772768644:=()
def tw6864887910540207759:=()
def tw6880980288501444468:=()
def tw6900931685637148767:=()
def tw6921103065077540406:=()
def tw694261584828832409:=()
def tw6942634455013318504:=()
def tw6953138203311097117:=()
def tw7001957589650049515:=()
def tw7007286002206832825:=()
def tw7046044490832178742:=()
def tw7050804516273991350:=()
def tw7053471978191194526:=()
def tw7086961617601330827:=()
def tw7151132215420815488:=()
def tw7217548393331319763:=()
def tw7220529860990300233:=()
def tw7231845647793152400:=()
def tw7249310025045793396:=()
def tw727924238349540522:=()
def tw7287071566680170395:=()
def tw730961619353400375:=()
def tw7372170664606466022:=()
def tw7387829919991485925:=()
def tw7397212543588705075:=()
def tw7422445781565681216:=()
def tw7476452910721959123:=()
def tw7484994123860896570:=()
def tw7557421358154311045:=()
def tw757356599333046425:=()
def tw7592715696027808041:=()
def tw771822569319705768:=()
def tw772564365185477556:=()
def tw7764699552788554220:=()
def tw7766106395892283477:=()
def tw7770478706760583155:=()
def tw7774113678449685934:=()
def tw7777189000029798807:=()
def tw7867829370405329436:=()
def tw7873748247521183178:=()
def tw7873786274422454737:=()
def tw7882045510503734624:=()
def tw7900394595670775223:=()
def tw7933485763601977624:=()
def tw7942791058656714990:=()
def tw7985883749528016586:=()
def tw7998583776865276027:=()
def tw8044325682031459534:=()
def tw8080008513338510535:=()
def tw8115137120850386438:=()
def tw8157277791214410489:=()
def tw8159993647027272844:=()
def tw8166255043249204926:=()
def tw8171798328758944481:=()
def tw8186657734068701312:=()
def tw8191318114535113306:=()
def tw8212203176049278890:=()
def tw8219003486749837733:=()
def tw8222940686941784037:=()
def tw8272569733616993153:=()
def tw8274446707539698164:=()
def tw8278001386518606062:=()
def tw8285278889055680438:=()
def tw8297923619242306668:=()
def tw8332346137001284160:=()
def tw8428246938381088814:=()
def tw8431482922422412695:=()
def tw8432719020341155521:=()
def tw8498532028676091811:=()
def tw8535803893964050539:=()
def tw855453113358079251:=()
def tw8565224436197482051:=()
def tw8590580007683888701:=()
def tw86012387029904805:=()
def tw861502493610598483:=()
def tw8646635810480103244:=()
def tw866652123128751154:=()
def tw866717566613908145:=()
def tw8725675927981157988:=()
def tw8733291241859026926:=()
def tw8739830900816887780:=()
def tw8752102160057688731:=()
def tw8757050672659960515:=()
def tw8757255369765604158:=()
def tw8760152093665844161:=()
def tw87601786513091389:=()
def tw8833496514701923757:=()
def tw8833860146974802555:=()
def tw8840235324560252208:=()
def tw885948055608056263:=()
def tw8865387616306378214:=()
def tw8899516883271353254:=()
def tw890339118813698166:=()
def tw8909772338491405060:=()
def tw8912161614967838395:=()
def tw8915285831880473931:=()
def tw8916268530333523031:=()
def tw8919978131948313185:=()
def tw8924819469995637033:=()
def tw8949853181751564097:=()
def tw896878414759379649:=()
def tw8995945545434573385:=()
def tw8996207646774452837:=()
def tw8997383693586321770:=()
def tw9045458381397004210:=()
def tw9104974531708491489:=()
def tw9113380124883318265:=()
def tw9186807149237001177:=()
def tw9197174079833555027:=()
def tw9201617497623189827:=()
def tw9206141786237547592:=()
def tw9252304221032618942:=()
def tw9304451534382375720:=()
def tw9316815775250114193:=()
def tw9320515035125037321:=()
def tw9347773876402395988:=()
def tw9358312197846296583:=()
def tw937210970483165301:=()
def tw938635154573522699:=()
def tw9388713150524257201:=()
def tw9399754086935153974:=()
def tw9404705873571188630:=()
def tw9433028549170029634:=()
def tw9456574344343218679:=()
def tw9461873434466728008:=()
def tw9461912720999461741:=()
def tw9496581404884138560:=()
def tw9530734954097333506:=()
def tw9536688357841153863:=()
def tw9553971096990549364:=()
def tw9592300441314626372:=()
def tw9592521066531166775:=()
def tw9615563845995560447:=()
def tw9619071485814978506:=()
def tw9630203353718772412:=()
def tw9646623106273453227:=()
def tw9676783613728631035:=()
def tw9679390387850249182:=()
def tw9689729476882780088:=()
def tw9733965910422807480:=()
def tw9757595895972200118:=()
def tw9768259533172459722:=()
def tw9784134513789038367:=()
def tw9818998656811842119:=()
def tw9848817304349107530:=()
def tw987426779421491659:=()
def tw9878177214627512989:=()
def tw9879335643197240621:=()
def tw991626836265849350:=()
def tw9919008367099125623:=()
def tw9931937742245647033:=()
def tw9947508896943372755:=()
def tw9950792792127014553:=()
def tw9969077435446430640:=()
def tw9972681490609642005:=()
def tw9977182230042388008:=()
end PySem.W.Fast
set_option maxRecDepth 100000 in
set_option maxHeartbeats 0 in
open_top hd for PySem.Challenge.rw_cartelship_k40_a_book_without_room
end Hd
set_option linter.all false
set_option maxRecDepth 100000
namespace L2
open PySem PySem.Spec PyProof.Rows
noncomputable abbrev Key:=Sum Int Str
noncomputable def JJ:Key→Value→Bool
 | .inl k,v=>Value.isInt k v
 | .inr x,v=>Value.isStrOf x v
noncomputable def Z8O (w:World):Key→Int
 | .inl k=>hashInt k
 | .inr x=>hashStr w x
theorem ZO:∀ {k:Key}{v:Value},JJ k v=true→(∃ i t,k=Sum.inl i∧v=Value.int i t)∨(∃ x t,k=Sum.inr x∧v=Value.str x t)
 | .inl i,v,h=>by
   obtain⟨t,e⟩:=Value.isInt_shape (k:=i) (v:=v) h;exact .inl ⟨i,t,rfl,e⟩
 | .inr x,v,h=>by
   obtain⟨t,e⟩:=Value.isStrOf_shape (x:=x) (v:=v) h;exact .inr ⟨x,t,rfl,e⟩
theorem Z58 (i:Int)(t:Tok):JJ (.inl i) (.int i t)=true:=by simp[JJ,Value.isInt]
theorem Z09 (x:Str)(t:Tok):JJ (.inr x) (.str x t)=true:=by simp[JJ,Value.isStrOf]
theorem Z8i (a b:Int):decide ((Sum.inl a:Key)=Sum.inl b)=(a == b):=by
 by_cases e:a=b
 ·subst e;simp
 ·have h:¬ (Sum.inl a:Key)=Sum.inl b:=λq=>e (Sum.inl.inj q);rw[decide_eq_false h];exact (beq_eq_false_iff_ne.mpr e).symm
theorem Z8j (a b:Str):decide ((Sum.inr a:Key)=Sum.inr b)=decide (a=b):=by
 by_cases e:a=b
 ·subst e;simp
 ·have h:¬ (Sum.inr a:Key)=Sum.inr b:=λq=>e (Sum.inr.inj q);rw[decide_eq_false h,decide_eq_false e]
theorem Z7R (a:Int)(b:Str):decide ((Sum.inl a:Key)=Sum.inr b)=false:=decide_eq_false (λq=>nomatch q)
theorem Z8s (a:Str)(b:Int):decide ((Sum.inr a:Key)=Sum.inl b)=false:=decide_eq_false (λq=>nomatch q)
noncomputable def Zv (prog:Program)(w:World):PySem.KeyKind prog w Key where
 is:=JJ
 hash:=Z8O w
 inj:=λv a b ha hb=>by
  rcases ZO ha with⟨i,t,rfl,rfl⟩|⟨x,t,rfl,rfl⟩
  ·rcases ZO hb with⟨j,u,rfl,e⟩|⟨y,u,rfl,e⟩
   ·injection e with e1 _;rw[e1]
   ·exact nomatch e
  ·rcases ZO hb with⟨j,u,rfl,e⟩|⟨y,u,rfl,e⟩
   ·exact nomatch e
   ·injection e with e1 _;rw[e1]
 byValue:=λk v h=>by
  rcases ZO h with⟨i,t,rfl,rfl⟩|⟨x,t,rfl,rfl⟩<;>rfl
 pyHash:=λhv h=>by
  rcases ZO hv with⟨i,t,rfl,rfl⟩|⟨x,t,rfl,rfl⟩
  ·exact wpAny_pyHash_int h
  ·exact wpAny_pyHash_str h
 eqBool:=λhu hv h=>by
  rcases ZO hu with⟨i,t,rfl,rfl⟩|⟨x,t,rfl,rfl⟩
  ·rcases ZO hv with⟨j,u,rfl,rfl⟩|⟨y,u,rfl,rfl⟩
   ·rw[Z8i] at h;exact wpAny_eqBool_int h
   ·rw[Z7R] at h;exact SeqAt.EqAt.int_str i t y u _ _ _ _ h
  ·rcases ZO hv with⟨j,u,rfl,rfl⟩|⟨y,u,rfl,rfl⟩
   ·rw[Z8s] at h;exact SeqAt.EqAt.str_int x t j u _ _ _ _ h
   ·rw[Z8j] at h;exact wpAny_eqBool_str h
 «strs»:=λk x t v h=>by
  rcases ZO h with⟨i,u,rfl,e⟩|⟨y,u,rfl,e⟩
  ·exact nomatch e
  ·injection e with e1 _
   subst e1;cases v<;>rfl
theorem Z3G (prog:Program)(w:World)(k:Key)(v:Value):(Zv prog w).is k v=JJ k v:=rfl
theorem Z36 (prog:Program)(w:World)(i:Int)(t:Tok):(Zv prog w).is (.inl i) (.int i t)=true:=Z58 i t
theorem Z39 (prog:Program)(w:World)(x:Str)(t:Tok):(Zv prog w).is (.inr x) (.str x t)=true:=Z09 x t
inductive V where
 | non|bl (b:Bool)|int (i:Int)|str (x:Str)|byt (b:Array UInt8)|flt (b:UInt64)|ref (a:Addr)|ty (n:String)
 deriving DecidableEq
noncomputable def RelV:V→Value→Prop
 | .non,u=>u=Value.none
 | .bl b,u=>u=Value.bool b
 | .int i,u=>∃ t,u=Value.int i t
 | .str x,u=>∃ t,u=Value.str x t
 | .byt b,u=>∃ t,u=Value.bytes b t
 | .flt b,u=>∃ t,u=Value.float b t
 | .ref a,u=>u=Value.ref a
 | .ty n,u=>u=Value.type n
noncomputable abbrev Vals:List V→List Value→Prop:=Paired RelV
theorem Vals.length {xs:List V}{us:List Value}(r:Vals xs us):xs.length=us.length:=Paired.length r
theorem Vals.get:∀ {xs:List V}{us:List Value}{i:Nat}{x:V},Vals xs us→xs[i]? = some x→∃ u,us[i]? = some u∧RelV x u
 | _,_,_,_,.nil,e=>by simp at e
 | _,_,0,_,.cons r _,e=>by simp at e;subst e;exact⟨_,rfl,r⟩
 | _,_,i + 1,x,.cons _ t,e=>by
   obtain⟨u,h1,h2⟩:=Vals.get (i:=i) (x:=x) t (by simpa using e);exact⟨u,by simpa using h1,h2⟩
theorem Vals.set {x:V}{u:Value}(r:RelV x u):∀ {xs:List V}{us:List Value} (i:Nat),Vals xs us→Vals (xs.set i x) (us.set i u)
 | _,_,_,.nil=>.nil
 | _,_,0,.cons _ t=>.cons r t
 | _,_,i + 1,.cons q t=>.cons q (Vals.set r i t)
theorem Vals.append:∀ {xs ys:List V}{us ws:List Value},Vals xs us→Vals ys ws→Vals (xs++ys) (us++ws)
 | _,_,_,_,.nil,s=>s
 | _,_,_,_,.cons r t,s=>.cons r (Vals.append t s)
noncomputable def RelO:Option V→Option Value→Prop
 | some v,some u=>RelV v u
 | none,none=>True
 | _,_=>False
noncomputable def KV {κ:Type}:List (κ×V)→List (κ×Value)→Prop:=Paired λ(p:κ×V) (q:κ×Value)=>p.1=q.1∧RelV p.2 q.2
noncomputable def kV:Key→V
 | .inl i=>.int i
 | .inr x=>.str x
inductive HO where
 | lst (xs:List V)
 | tup (xs:List V)
 | dK (kvs:List (Key×V))|dT (kvs:List (List Key×V))
 | set (S:Int→Bool) (n:Nat)
 | ins (C dx:Addr) (fs:List (Str×V))
 | own (x:Addr)
 | xd (fs:List (Str×V))
 | met (f x:Addr)
 | rng (lo hi:Int)
 | frz (o:Obj) (u:HO)
 | tbl (ps:Array Value)
 | ext (φ:Heap→Prop)
noncomputable abbrev Hp:=Addr→Option HO
noncomputable def upd (H:Hp)(a:Addr)(o:HO):Hp:=λb=>if b=a then some o else H b
theorem Z1 {H:Hp}{a:Addr}{o:HO}:upd H a o a=some o:=by unfold upd;rw[if_pos rfl]
theorem Z2 {H:Hp}{a b:Addr}{o:HO}(h:b≠a):upd H a o b=H b:=by unfold upd;rw[if_neg h]
theorem Y3 {H:Hp}{a:Addr}{o u:HO}:upd (upd H a o) a u=upd H a u:=by
 funext b;unfold upd;split<;>rfl
theorem Zk {H:Hp}{a b:Addr}{o u:HO}(h:H a=some o)(h':H b=some u)(d:o≠u):a≠b:=by
 intro e;subst e;rw[h] at h';exact d (Option.some.inj h')
theorem Z6 {H:Hp}{a b:Addr}{o:HO}(h:H a=some o)(h':H b=none):a≠b:=by
 intro e;subst e;rw[h] at h';cases h'
section
variable (P:Program)(w:World)
noncomputable def ObjOk (H:Hp)(h:Heap)(a:Addr):HO→Prop
 | .lst xs=>xs.length≤sizeLine∧∃ (its:List Value) (n:Nat),Vals xs its∧h.get? a=some { cls:=.type "list",data:=.seq its.toArray n }
 | .tup xs=>xs.length≤sizeLine∧∃ its:List Value,Vals xs its∧IsTup h a its.toArray
 | .dK kvs=>kvs.length≤sizeLine∧(a == sysModules)=false∧∃ vs,KV kvs vs∧h.DictOf (Zv P w) a vs
 | .dT kvs=>kvs.length≤sizeLine∧(a == sysModules)=false∧∃ xs:List (List Key×Addr×Value),
  Paired (λ(p:List Key×V) (q:List Key×Addr×Value)=>p.1=q.1∧H q.2.1=some (.tup (p.1.map kV))∧RelV p.2 q.2.2) kvs xs∧
  ∃ o es ep,h.get? a=some o∧o.ExactDict∧o.data=.dict es ep∧es.toList=xs.map (entryOfKey (tupleKind (Zv P w)))∧(xs.map (·.1)).Nodup
 | .set S n=>h.SetOf (intKind P w) a S n
 | .ins C dx fs=>H dx=some (.own a)∧fs.length≤1000∧dx≠a∧h.get? a=some (W.instObj C dx)∧
  ∃ mA,h.Ns1 dx mA∧(∀ f,RelO (fs.lookup f) (mA f))∧PySem.Within mA (fs.map (·.1))
 | .own _=>∃ o,h.get? a=some o
 | .xd fs=>∃ mA,h.Ns1 a mA∧∀ f,RelO (fs.lookup f) (mA f)
 | .rng lo hi=>∃ t u v,h.get? a=some { cls:=.type "range",data:=.fields #[.int lo t,.int hi u,.int 1 v] }
 | .frz o u=>h.get? a=some o∧ObjOk H h a u
 | .tbl ps=>h.get? a=some { cls:=.none,data:=.fields ps }
 | .met f x=>h.get? a=some (W.methodObj (.ref f) (.ref x))
 | .ext φ=>φ h∧(∃ o,h.get? a=some o)∧∀ h1 h2:Heap,φ h1→(∀ o,h1.get? a=some o→h2.get? a=some o)→φ h2
noncomputable def HOk (H:Hp)(h:Heap):Prop:=∀ a o,H a=some o→ObjOk P w H h a o
end
section
variable {P:Program}{w:World}{H H':Hp}{h h':Heap}{a:Addr}{o:HO}
theorem ObjOk.lt (x:ObjOk P w H h a o):a < h.objs.size:=by
 cases o with
 | lst xs=>obtain⟨_,_,_,_,e⟩:=x;exact Heap.lt_size e
 | tup xs=>obtain⟨_,_,_,p⟩:=x;exact p.lt
 | dK kvs=>obtain⟨_,_,_,_,o,_,_,e,_⟩:=x;exact Heap.lt_size e
 | dT kvs=>obtain⟨_,_,_,_,o,_,_,e,_⟩:=x;exact Heap.lt_size e
 | set S n=>obtain⟨o,_,_,_,e,_⟩:=x;exact Heap.lt_size e
 | ins C dx fs=>obtain⟨_,_,_,e,_⟩:=x;exact Heap.lt_size e
 | own y=>obtain⟨_,e⟩:=x;exact Heap.lt_size e
 | xd fs=>obtain⟨_,⟨_,_,_,e,_⟩,_⟩:=x;exact Heap.lt_size e
 | rng lo hi=>obtain⟨_,_,_,e⟩:=x;exact Heap.lt_size e
 | frz ob u=>obtain⟨e,_⟩:=x;exact Heap.lt_size e
 | tbl ps=>exact Heap.lt_size (show h.get? a=some _ from x)
 | met f y=>exact Heap.lt_size (show h.get? a=some _ from x)
 | ext φ=>obtain⟨_,⟨_,e⟩,_⟩:=x;exact Heap.lt_size e
theorem Paired.mapP {α β:Type}{F G:α→β→Prop}:∀ {l₁:List α}{l₂:List β},Paired F l₁ l₂→(∀ a b,F a b→G a b)→Paired G l₁ l₂
 | _,_,.nil,_=>.nil
 | _,_,.cons r t,f=>.cons (f _ _ r) (Paired.mapP t f)
theorem ObjOk.stay (x:ObjOk P w H h a o)(k:∀ b u,(b=a∨H b=some (.own a))→h.get? b=some u→h'.get? b=some u)
 (ho:∀ b,H b=some (.own a)→H' b=some (.own a)) (ht:∀ b xs,H b=some (.tup xs)→H' b=some (.tup xs)):ObjOk P w H' h' a o:=by
 induction o with
 | lst xs=>obtain⟨z,its,n,r,e⟩:=x;exact⟨z,its,n,r,k _ _ (.inl rfl) e⟩
 | tup xs=>obtain⟨z,its,r,ob,e,c⟩:=x;exact⟨z,its,r,ob,k _ _ (.inl rfl) e,c⟩
 | dK kvs=>obtain⟨z,y,vs,r,ob,es,ep,e,c⟩:=x;exact⟨z,y,vs,r,ob,es,ep,k _ _ (.inl rfl) e,c⟩
 | dT kvs=>
   obtain⟨z,y,xs,r,ob,es,ep,e,c⟩:=x;exact⟨z,y,xs,Paired.mapP r λp q z=>⟨z.1,ht _ _ z.2.1,z.2.2⟩,ob,es,ep,k _ _ (.inl rfl) e,c⟩
 | set S n=>obtain⟨ob,es,ep,t,e,c⟩:=x;exact⟨ob,es,ep,t,k _ _ (.inl rfl) e,c⟩
 | ins C dx fs=>
   obtain⟨d,z,ne,e,mA,⟨od,es,ep,e2,c⟩,r⟩:=x;exact⟨ho _ d,z,ne,k _ _ (.inl rfl) e,mA,⟨od,es,ep,k _ _ (.inr d) e2,c⟩,r⟩
 | own y=>obtain⟨ob,e⟩:=x;exact⟨ob,k _ _ (.inl rfl) e⟩
 | xd fs=>obtain⟨mA,⟨od,es,ep,e,c⟩,r⟩:=x;exact⟨mA,⟨od,es,ep,k _ _ (.inl rfl) e,c⟩,r⟩
 | rng lo hi=>obtain⟨t,u,v,e⟩:=x;exact⟨t,u,v,k _ _ (.inl rfl) e⟩
 | frz ob u ih=>obtain⟨e,q⟩:=x;exact⟨k _ _ (.inl rfl) e,ih q⟩
 | tbl ps=>
   have e:h.get? a=some { cls:=.none,data:=.fields ps }:=x;show h'.get? a=some { cls:=.none,data:=.fields ps };exact k a _ (.inl rfl) e
 | met f y=>
   have e:h.get? a=some (W.methodObj (.ref f) (.ref y)):=x;show h'.get? a=some (W.methodObj (.ref f) (.ref y));exact k a _ (.inl rfl) e
 | ext φ=>obtain⟨p,⟨o,e⟩,st⟩:=x;exact⟨st _ _ p λo q=>k _ _ (.inl rfl) q,⟨o,k _ _ (.inl rfl) e⟩,st⟩
theorem HOk.lt (x:HOk P w H h)(e:H a=some o):a < h.objs.size:=(x a o e).lt
theorem HOk.fresh (x:HOk P w H h)(e:h.objs.size≤a):H a=none:=by
 cases q:H a with
 | none=>rfl
 | some u=>exact absurd (Nat.lt_of_lt_of_le (x.lt q) e) (Nat.lt_irrefl _)
theorem HOk.kept (x:HOk P w H h)(k:∀ b u,h.get? b=some u→h'.get? b=some u):HOk P w H h':=λa o e=>
 (x a o e).stay (λb u _ q=>k b u q) (λ_ q=>q) λ_ _ q=>q
theorem HOk.laid (x:HOk P w H h)(k:∀ b u,h.get? b=some u→h'.get? b=some u)(hp:h.objs.size≤a)(new:ObjOk P w (upd H a o) h' a o):HOk P w (upd H a o) h':=λb u e=>by
 have hn:=x.fresh hp
 by_cases hb:b=a
 ·subst hb;rw[Z1] at e;cases e;exact new
 ·rw[Z2 hb] at e;exact (x b u e).stay (λc v _ q=>k c v q) (λc q=>by rw[Z2 (Z6 q hn)];exact q) λc xs q=>by rw[Z2 (Z6 q hn)];exact q
end
noncomputable def Rd (H:Hp)(a:Addr)(u:HO):Prop:=H a=some u∨∃ o,H a=some (.frz o u)
theorem Rd.of {H:Hp}{a:Addr}{u:HO}(h:H a=some u):Rd H a u:=.inl h
theorem Rd.ok {P:Program}{w:World}{H:Hp}{h:Heap}{a:Addr}{u:HO}(r:Rd H a u)(x:HOk P w H h):ObjOk P w H h a u:=by
 rcases r with r|⟨o,r⟩
 ·exact x a u r
 ·obtain⟨_,q⟩:=x a _ r;exact q
noncomputable def Mut:Option HO→Prop
 | some (.lst _)=>True
 | some (.dK _)=>True
 | some (.dT _)=>True
 | some (.set _ _)=>True
 | some (.ins _ _ _)=>True
 | some (.ext _)=>True
 | _=>False
section
variable {P:Program}{w:World}{H:Hp}{h h':Heap}{x e:Addr}{o':HO}
theorem HOk.write (ok:HOk P w H h)(mu:Mut (H x))(he:e=x∨H e=some (.own x))(k:∀ b u,b≠e→h.get? b=some u→h'.get? b=some u)(heo:∃ u,h'.get? e=some u)
 (new:ObjOk P w (upd H x o') h' x o'):HOk P w (upd H x o') h':=λb u q=>by
 have nown:∀ c y,H c=some (.own y)→c≠x:=λc y r z=>by subst z;rw[r] at mu;exact mu
 have ntup:∀ c xs,H c=some (.tup xs)→c≠x:=λc xs r z=>by subst z;rw[r] at mu;exact mu
 by_cases hb:b=x
 ·subst hb;rw[Z1] at q;cases q;exact new
 ·rw[Z2 hb] at q
  by_cases hbe:b=e
  ·have q':H b=some (.own x):=by
    rcases he with z|z
    ·exact absurd (hbe.trans z) hb
    ·rw[hbe];exact z
   rw[q] at q';cases q';obtain⟨v,hv⟩:=heo;exact⟨v,by rw[hbe];exact hv⟩
  ·refine (ok b u q).stay (λc v hc r=>k c v ?_ r) (λc r=>by rw[Z2 (nown c b r)];exact r) λc xs r=>by rw[Z2 (ntup c xs r)];exact r
   rcases hc with rfl|hc
   ·exact hbe
   ·rintro rfl
    rcases he with z|z
    ·exact nown c b hc z
    ·rw[hc] at z;cases z;exact hb rfl
end
structure Un (fs ex:List Addr)(H H':Hp)(h h':Heap):Prop where
 keep:∀ b o,h.get? b=some o→H b=none→b ∉ fs→b ∉ ex→h'.get? b=some o
 slot:∀ b o,h.get? b=some o→H b=none→b∈fs→b ∉ ex→∃ sl,h'.get? b=some { o with slots:=sl }
 free:∀ b o,h.get? b=some o→H b=none→b ∉ ex→H' b=none
 there:∀ b o,h.get? b=some o→b ∉ ex→∃ o',h'.get? b=some o'
 tups:∀ b xs,H b=some (.tup xs)→H' b=some (.tup xs)
 frzs:∀ b o u,H b=some (.frz o u)→H' b=some (.frz o u)
 tbls:∀ b ps,H b=some (.tbl ps)→∃ more,H' b=some (.tbl (ps++more))
section
variable {fs fs' ex ex':List Addr}{H H1 H2:Hp}{h h1 h2 h':Heap}{a x e:Addr}{o:HO}
theorem Un.any (u:Un fs ex H H1 h h1){b:Addr}{ob:Obj}(q:h.get? b=some ob)(n:H b=none)(hx:b ∉ ex):∃ sl,h1.get? b=some { ob with slots:=sl }:=by
 by_cases hb:b∈fs
 ·exact u.slot b ob q n hb hx
 ·exact⟨ob.slots,u.keep b ob q n hb hx⟩
theorem Un.kept (k:∀ b u,h.get? b=some u→h'.get? b=some u):Un fs ex H H h h':=
 ⟨λb ob q _ _ _=>k b ob q,λb ob q _ _ _=>⟨ob.slots,k b ob q⟩,λ_ _ _ n _=>n,λb ob q _=>⟨ob,k b ob q⟩,λ_ _ q=>q,λ_ _ _ q=>q,λ_ ps q=>⟨#[],by rw[q];simp⟩⟩
theorem Un.refl:Un fs ex H H h h:=Un.kept λ_ _ q=>q
theorem Un.laid (k:∀ b u,h.get? b=some u→h'.get? b=some u)(hp:h.objs.size≤a)(hn:H a=none):Un fs ex H (upd H a o) h h' where
 keep:=λb u q _ _ _=>k b u q
 slot:=λb u q _ _ _=>⟨u.slots,k b u q⟩
 free:=λb u q n _=>by rw[Z2 (Nat.ne_of_lt (Nat.lt_of_lt_of_le (Heap.lt_size q) hp))];exact n
 there:=λb u q _=>⟨u,k b u q⟩
 tups:=λb xs q=>by rw[Z2 (Z6 q hn)];exact q
 frzs:=λb u xs q=>by rw[Z2 (Z6 q hn)];exact q
 tbls:=λb ps q=>⟨#[],by rw[Z2 (Z6 q hn),q];simp⟩
theorem Un.write (mu:Mut (H x))(he:e=x∨H e=some (.own x))(k:∀ b u,b≠e→h.get? b=some u→h'.get? b=some u)(heo:∃ u,h'.get? e=some u):Un fs ex H (upd H x o) h h':=by
 have hx:∀ b,H b=none→b≠x:=λb n z=>by subst z;rw[n] at mu;exact mu
 have hb:∀ b,H b=none→b≠e:=λb n z=>by
  subst z
  rcases he with r|r
  ·exact hx b n r
  ·rw[n] at r;cases r
 have hm:∀ b u,H b=some u→¬ Mut (some u)→b≠x:=λb u q nm z=>by subst z;rw[q] at mu;exact nm mu
 refine⟨λb u q n _ _=>k b u (hb b n) q,λb u q n _ _=>⟨u.slots,k b u (hb b n) q⟩,λb u q n _=>by rw[Z2 (hx b n)];exact n,λb u q _=>?_,
  λb xs q=>by rw[Z2 (hm b _ q λz=>z)];exact q,λb u xs q=>by rw[Z2 (hm b _ q λz=>z)];exact q,λb ps q=>⟨#[],by rw[Z2 (hm b _ q λz=>z),q];simp⟩⟩
 by_cases hbe:b=e
 ·subst hbe;exact heo
 ·exact⟨u,k b u hbe q⟩
end
noncomputable def trk (h:Heap)(H:Hp):List Addr:=(List.range h.objs.size).filter λa=>(H a).isSome
noncomputable def JC (h:Heap)(H:Hp):Heap:=W.hideAll h (trk h H)
theorem Z4F (h:Heap)(H:Hp):(JC h H).objs.size=h.objs.size:=W.hideAll_size _ _
theorem Z5D {h:Heap}{H:Hp}{b:Addr}{o:Obj}(e:h.get? b=some o)(n:H b=none):(JC h H).get? b=some o:=
 W.hideAll_get _ e λhm=>by
  have q:(H b).isSome=true:=(List.mem_filter.mp hm).2;rw[n] at q;simp at q
theorem Z6Q {h:Heap}{H:Hp}{b:Addr}{o:Obj}(e:(JC h H).get? b=some o):h.get? b=some o∧H b=none:=by
 have e':h.get? b=some o:=W.of_hideAll (trk h H) e;refine⟨e',?_⟩;cases q:H b with
 | none=>rfl
 | some x=>
   have hm:b∈trk h H:=List.mem_filter.mpr ⟨List.mem_range.mpr (Heap.lt_size e'),by simp[q]⟩;have z:(JC h H).get? b=none:=W.hideAll_none (trk h H) hm;rw[z] at e;cases e
noncomputable def Xl (g h:Heap)(L:Addr):List (Addr×Obj):=(List.range h.objs.size).filterMap λa=>if a=L∨(g.get? a).isSome=true then none else (h.get? a).map λo=>(a,o)
theorem YG {g h:Heap}{L a:Addr}{o:Obj}(h1:a≠L)(h2:g.get? a=none)(h3:h.get? a=some o):(a,o)∈Xl g h L:=
 List.mem_filterMap.mpr ⟨a,List.mem_range.mpr (Heap.lt_size h3),by simp[h1,h2,h3]⟩
theorem Z1t {g h:Heap}{L:Addr}{p:Addr×Obj}(hp:p∈Xl g h L):p.1≠L∧g.get? p.1=none∧h.get? p.1=some p.2:=by
 obtain⟨b,_,e⟩:=List.mem_filterMap.mp hp
 split at e
 ·cases e
 ·rename_i hn;cases q:h.get? b with
  | none=>rw[q] at e;simp at e
  | some u=>
    rw[q] at e;simp only[Option.map_some,Option.some.injEq] at e;subst e;refine⟨λz=>hn (.inl z),?_,q⟩;show g.get? b=none;cases r:g.get? b with
    | none=>rfl
    | some v=>exact (hn (.inr (by simp[r]))).elim
noncomputable def YW (g h:Heap)(L d:Addr):List (Addr×Obj):=(Xl g h L).filter λp=>decide (p.1≠d)
theorem Z1c {g h:Heap}{L d:Addr}:∀ p∈YW g h L d,p.1≠d:=λp hp=>of_decide_eq_true (List.mem_filter.mp hp).2
theorem Z5L {g h:Heap}{L d a:Addr}{o:Obj}(h1:a≠L)(h2:g.get? a=none)(h3:h.get? a=some o)(h4:a≠d):(a,o)∈YW g h L d:=
 List.mem_filter.mpr ⟨YG h1 h2 h3,decide_eq_true h4⟩
theorem Xw {g h:Heap}{L:Addr}:News g L h (Xl g h L):=λp hp=>let ⟨a,b,c⟩:=Z1t hp;⟨c,a,b⟩
theorem Z1h {g h:Heap}{L d:Addr}{o:Obj}(h1:d≠L)(h2:g.get? d=none)(h3:h.get? d=some o):News g L h ((d,o)::YW g h L d):=λp hp=>by
 rcases List.mem_cons.mp hp with rfl|hp
 ·exact⟨h3,h1,h2⟩
 ·exact Xw p (List.mem_filter.mp hp).1
structure Mod (K:W.Frag)(mg:Str→Option Value)(base:Heap):Prop where
 kin:K.In base
 glob:base.Ns mainGlobals mg
 blt:∃ mb,base.Ns builtinsNs mb∧∀ x:Str,x≠"__name__"→mb x=bootBuiltins x
 nolimit:base.NoLimit
structure Cx where
 prog:Program
 w:World
 K:W.Frag
 mg:Str→Option Value
 base:Heap
 A:Around
 N:List Str
 s₀:Shared
 H₀:Hp
 env:Env
 outer:List Env
 stack:List Env
 ex:List Addr
 fn:Str→Bool
 calm:Bool
 pn:List (Addr×Obj)
 xe:Value→Shared→Prop
noncomputable def frs (l:List Env):List Addr:=l.filterMap (·.frame)
noncomputable abbrev Cx.fs (X:Cx):List Addr:=frs X.outer
noncomputable def Vis (sc:Scope)(x:Str):Prop:=sc.names.lookup x=some .local∨sc.names.lookup x=some .cell∨sc.names.lookup x=some .free
noncomputable def Loc (sc:Scope)(x:Str):Prop:=sc.names.lookup x=some .local∨sc.names.lookup x=some .cell
noncomputable def Z8X (env:Env)(h:Heap)(m:Str→Option Value)(x:Str)(u:Value):Prop:=
 (env.kindOf x=some .local∧m x=some u)∨((env.kindOf x=some .cell∨env.kindOf x=some .free)∧∃ c,env.cells.lookup x=some c∧h.IsCell c (some u))
structure Cx.Ok (X:Cx):Prop where
 mod:Mod X.K X.mg X.base
 kind:X.env.scope.kind=.function
 glob:X.env.globals=mainGlobals
 blt:X.env.builtins=builtinsNs
 above:X.s₀.heap.objs.size≤X.env.locals
 inj:∀ x y c,X.env.cells.lookup x=some c→X.env.cells.lookup y=some c→x=y
 has:∀ x,(X.env.kindOf x=some .cell∨X.env.kindOf x=some .free)→∃ c,X.env.cells.lookup x=some c
 cab:∀ x c,X.fn x=true→X.env.cells.lookup x=some c→X.s₀.heap.objs.size≤c
 hd:X.calm=true→X.A.handled=none
 frames:X.A.frames=some X.stack
 stk:X.stack=X.outer∨(X.stack=X.env::X.outer∧X.env.frame=some X.env.locals)
 exf:∀ b∈X.ex,b≠X.env.locals∧∀ x c,X.env.cells.lookup x=some c→c≠b
 bs:∀ b o,X.base.get? b=some o→X.s₀.heap.get? b=some o∧X.H₀ b=none
 bsz:X.base.objs.size≤X.s₀.heap.objs.size
 noex:∀ b o,X.base.get? b=some o→b ∉ X.ex
 exfs:∀ b∈X.ex,b ∉ X.fs
 funs:X.s₀.heap.FunFrames X.base X.outer
 frf:∀ b∈X.fs,X.H₀ b=none
structure Inv (X:Cx)(pins:List (Addr×Obj))(σ:List (Option V))(H:Hp)(s:Shared):Prop where
 ok:X.Ok
 os:s.os=X.s₀.os
 bare:AllBare s.gens
 base:Un X.fs X.ex X.H₀ H X.s₀.heap s.heap
 loc:∃ m,s.heap.Ns X.env.locals m∧∀ (i:Nat) (x:Str) (v:V),X.N[i]? = some x→σ[i]? = some (some v)→Vis X.env.scope x→∃ u,RelV v u∧Z8X X.env s.heap m x u
 cell:∀ x c,X.env.cells.lookup x=some c→∃ v,s.heap.IsCell c v
 free:H X.env.locals=none
 freeC:∀ x c,X.env.cells.lookup x=some c→H c=none
 pin:∀ p∈X.pn++pins,s.heap.get? p.1=some p.2∧H p.1=none∧p.1≠X.env.locals∧p.1 ∉ X.fs∧∀ v,p.2.data≠.cell v
 hok:HOk X.prog X.w H s.heap
 len:σ.length=X.N.length
section
variable {X:Cx}{pins:List (Addr×Obj)}{σ:List (Option V)}{H H':Hp}{s:Shared}{h':Heap}
theorem Cx.Ok.nofr (ok:X.Ok){b:Addr}{o:Obj}(e:X.base.get? b=some o):b ∉ X.fs:=λhb=>by
 have:=(ok.funs.mem hb).1;rw[e] at this;cases this
theorem Inv.bs (I:Inv X pins σ H s):∀ b o,X.base.get? b=some o→s.heap.get? b=some o∧H b=none:=λb o e=>
 ⟨I.base.keep b o (I.ok.bs b o e).1 (I.ok.bs b o e).2 (I.ok.nofr e) (I.ok.noex b o e),I.base.free b o (I.ok.bs b o e).1 (I.ok.bs b o e).2 (I.ok.noex b o e)⟩
theorem Inv.bk (I:Inv X pins σ H s):∀ b o,X.base.get? b=some o→s.heap.get? b=some o:=λb o e=>(I.bs b o e).1
theorem Inv.mod (I:Inv X pins σ H s):Mod X.K X.mg X.base:=I.ok.mod
theorem Inv.kIn (I:Inv X pins σ H s):X.K.In s.heap:=I.ok.mod.kin.keeps I.bk
theorem Inv.fr (I:Inv X pins σ H s):∃ m,Fr X.base X.env.locals s.heap m:=
 let ⟨m,hn,_⟩:=I.loc
 ⟨m,hn,I.bk,Nat.le_trans I.ok.bsz I.ok.above⟩
theorem Inv.lt (I:Inv X pins σ H s):X.env.locals < s.heap.objs.size:=let ⟨_,hn,_⟩:=I.loc;hn.lt
theorem Inv.sz (I:Inv X pins σ H s):X.s₀.heap.objs.size≤s.heap.objs.size:=Nat.le_trans I.ok.above (Nat.le_of_lt I.lt)
theorem Inv.nofs (I:Inv X pins σ H s){a:Addr}(h:s.heap.objs.size≤a):a ∉ X.fs:=λhb=>by
 obtain⟨_,o,ho,_⟩:=I.ok.funs.mem hb;exact absurd (Nat.lt_of_lt_of_le (Heap.lt_size ho) (Nat.le_trans I.sz h)) (Nat.lt_irrefl _)
theorem Inv.cne (I:Inv X pins σ H s):∀ x c,X.env.cells.lookup x=some c→c≠X.env.locals:=λx c e z=>by
 obtain⟨v,o,ho,hd⟩:=I.cell x c e;obtain⟨m,⟨o',es,ep,ho',hd',_⟩,_⟩:=I.loc;rw[z,ho'] at ho;cases ho;rw[hd'] at hd;cases hd
theorem Inv.funs (I:Inv X pins σ H s):s.heap.FunFrames X.base X.outer:=by
 have all:∀ (l:List Env),(∀ b∈frs l,b∈X.fs)→X.s₀.heap.FunFrames X.base l→s.heap.FunFrames X.base l:=by
  intro l
  induction l with
  | nil=>intro _ _;trivial
  | cons env r ih=>
    intro hs hl;obtain⟨hk,⟨L,o,hf,hn,ho,hd⟩,hr⟩:=hl;have hL:L∈X.fs:=hs L (by unfold frs;rw[List.filterMap_cons,hf];exact List.mem_cons_self);obtain⟨sl,e⟩:=I.base.slot L o ho (I.ok.frf L hL) hL λz=>I.ok.exfs L z hL;exact⟨hk,⟨L,_,hf,hn,e,hd⟩,ih (λb hb=>hs b (by unfold frs;rw[List.filterMap_cons,hf];exact List.mem_cons_of_mem _ hb)) hr⟩
 exact all X.outer (λ_ hb=>hb) I.ok.funs
theorem Inv.stack (I:Inv X pins σ H s):s.heap.FunFrames X.base X.stack:=by
 rcases I.ok.stk with e|⟨e,hf⟩
 ·rw[e];exact I.funs
 ·rw[e];obtain⟨m,hn,_⟩:=I.loc;refine .cons (by rw[I.ok.kind];decide) hf hn ?_ I.funs;exact Heap.get?_none_of_le (Nat.le_trans I.ok.bsz I.ok.above)
theorem Inv.stkSub (I:Inv X pins σ H s):∀ b∈frs X.stack,b∈X.env.locals::X.fs:=λb hb=>by
 rcases I.ok.stk with e|⟨e,hf⟩
 ·rw[e] at hb;exact List.mem_cons_of_mem _ hb
 ·rw[e] at hb;unfold frs at hb;rw[List.filterMap_cons,hf] at hb;exact hb
theorem Inv.stkFree (I:Inv X pins σ H s):∀ b∈frs X.stack,H b=none:=λb hb=>by
 rcases List.mem_cons.mp (I.stkSub b hb) with e|hb
 ·rw[e];exact I.free
 ·obtain⟨_,o,ho,_⟩:=I.ok.funs.mem hb;exact I.base.free b o ho (I.ok.frf b hb) λz=>I.ok.exfs b z hb
theorem Inv.step {g':Array GenState}{t':Nat}{d':Drawn}{ch:List Addr}(I:Inv X pins σ H s)
 (hch:∀ b∈ch,(b∈X.ex∨X.s₀.heap.objs.size≤b)∧b≠X.env.locals∧(∀ x c,X.env.cells.lookup x=some c→c≠b)∧∀ p∈X.pn++pins,p.1≠b)
 (keep:∀ b o,b≠X.env.locals→b ∉ X.fs→b ∉ ch→s.heap.get? b=some o→H b=none→h'.get? b=some o)
 (slot:∀ b o,b≠X.env.locals→b∈X.fs→b ∉ ch→s.heap.get? b=some o→H b=none→∃ sl,h'.get? b=some { o with slots:=sl }) (free:∀ b o,b ∉ ch→s.heap.get? b=some o→H b=none→H' b=none)
 (there:∀ b o,b ∉ ch→s.heap.get? b=some o→∃ o',h'.get? b=some o')
 (tups:∀ b xs,H b=some (.tup xs)→H' b=some (.tup xs)) (frzs:∀ b o u,H b=some (.frz o u)→H' b=some (.frz o u)) (tbls:∀ b ps,H b=some (.tbl ps)→∃ more,H' b=some (.tbl (ps++more)))
 (ns:∀ m,s.heap.Ns X.env.locals m→h'.Ns X.env.locals m) (hok:HOk X.prog X.w H' h') (hg:AllBare g') :
 Inv X pins σ H' { s with heap:=h',gens:=g',drawn:=d',toks:=t' }:=by
 have neL:∀ b o,X.s₀.heap.get? b=some o→b≠X.env.locals:=λb o e=>Nat.ne_of_lt (Nat.lt_of_lt_of_le (Heap.lt_size e) I.ok.above);have neC:∀ b o,X.s₀.heap.get? b=some o→b ∉ X.ex→b ∉ ch:=λb o e hx hb=>by
  rcases (hch b hb).1 with z|z
  ·exact hx z
  ·exact absurd (Nat.lt_of_lt_of_le (Heap.lt_size e) z) (Nat.lt_irrefl _)
 have cellK:∀ x c,X.env.cells.lookup x=some c→∀ v,s.heap.IsCell c v→h'.IsCell c v:=λx c e v ⟨o,ho,hd⟩=>by
  have nch:c ∉ ch:=λz=>(hch c z).2.2.1 x c e rfl
  by_cases hc:c∈X.fs
  ·obtain⟨sl,q⟩:=slot c o (I.cne x c e) hc nch ho (I.freeC x c e);exact⟨_,q,hd⟩
  ·exact⟨o,keep c o (I.cne x c e) hc nch ho (I.freeC x c e),hd⟩
 refine⟨I.ok,I.os,hg,⟨λb o e n hb hx=>?_,λb o e n hb hx=>?_,λb o e n hx=>?_,λb o e hx=>?_,λb xs e=>tups b xs (I.base.tups b xs e),λb o xs e=>frzs b o xs (I.base.frzs b o xs e),λb ps e=>?_⟩,?_,λx c e=>?_,?_,λx c e=>?_,λp hp=>?_,hok,I.len⟩
 ·exact keep b o (neL b o e) hb (neC b o e hx) (I.base.keep b o e n hb hx) (I.base.free b o e n hx)
 ·obtain⟨sl,e1⟩:=I.base.slot b o e n hb hx;obtain⟨sl',e2⟩:=slot b _ (neL b o e) hb (neC b o e hx) e1 (I.base.free b o e n hx);exact⟨sl',e2⟩
 ·obtain⟨o',e1⟩:=I.base.there b o e hx;exact free b o' (neC b o e hx) e1 (I.base.free b o e n hx)
 ·obtain⟨o',e1⟩:=I.base.there b o e hx;exact there b o' (neC b o e hx) e1
 ·obtain⟨m1,e1⟩:=I.base.tbls b ps e;obtain⟨m2,e2⟩:=tbls b _ e1;exact⟨m1++m2,by rw[e2,Array.append_assoc]⟩
 ·obtain⟨m,hn,hl⟩:=I.loc;refine⟨m,ns m hn,λi x v e1 e2 e3=>?_⟩;obtain⟨u,r,l⟩:=hl i x v e1 e2 e3;refine⟨u,r,?_⟩
  rcases l with l|⟨k,c,e,z⟩
  ·exact .inl l
  ·exact .inr ⟨k,c,e,cellK x c e _ z⟩
 ·obtain⟨v,z⟩:=I.cell x c e;exact⟨v,cellK x c e v z⟩
 ·obtain⟨m,⟨o,_,_,ho,_⟩,_⟩:=I.loc;exact free _ o (λz=>(hch _ z).2.1 rfl) ho I.free
 ·obtain⟨v,o,ho,hd⟩:=I.cell x c e;exact free c o (λz=>(hch c z).2.2.1 x c e rfl) ho (I.freeC x c e)
 ·obtain⟨e,n,ne,nf,d⟩:=I.pin p hp;have nch:p.1 ∉ ch:=λz=>(hch p.1 z).2.2.2 p hp rfl;exact⟨keep p.1 p.2 ne nf nch e n,free p.1 p.2 nch e n,ne,nf,d⟩
theorem Inv.un {t':Nat}(I:Inv X pins σ H s)(u:Un X.fs [] H H' s.heap h')(hok:HOk X.prog X.w H' h'):Inv X pins σ H' { s with heap:=h',toks:=t' }:=by
 obtain⟨m,⟨o,es,ep,ho,r⟩,_⟩:=id I.loc;obtain⟨sl,hL⟩:=u.any ho I.free (by simp);exact I.step (g':=s.gens) (d':=s.drawn) (ch:=[]) (λ_ z=>nomatch z) (λb o _ hb _ e n=>u.keep b o e n hb (by simp)) (λb o _ hb _ e n=>u.slot b o e n hb (by simp)) (λb o _ e n=>u.free b o e n (by simp)) (λb o _ e=>u.there b o e (by simp)) u.tups u.frzs u.tbls (λm' hm=>by
  obtain⟨o',es',ep',ho',r'⟩:=hm;rw[ho] at ho';cases ho';exact⟨_,es',ep',hL,r'⟩) hok I.bare
theorem Inv.call {g':Array GenState}{t':Nat}{d':Drawn}{ch:List Addr}(I:Inv X pins σ H s)(u:Un (frs X.stack) ch H H' s.heap h')(hok:HOk X.prog X.w H' h')(hg:AllBare g')
 (hch:∀ b∈ch,(b∈X.ex∨X.s₀.heap.objs.size≤b)∧b≠X.env.locals∧(∀ x c,X.env.cells.lookup x=some c→c≠b)∧∀ p∈X.pn++pins,p.1≠b) :
 Inv X pins σ H' { s with heap:=h',gens:=g',drawn:=d',toks:=t' }:=by
 obtain⟨m,⟨o,es,ep,ho,r⟩,_⟩:=id I.loc;obtain⟨sl,hL⟩:=u.any ho I.free λz=>(hch _ z).2.1 rfl;exact I.step (ch:=ch) hch (λb o hL hb hc e n=>u.keep b o e n (λz=>(List.mem_cons.mp (I.stkSub b z)).elim hL hb) hc) (λb o _ _ hc e n=>u.any e n hc) (λb o hc e n=>u.free b o e n hc) (λb o hc e=>u.there b o e hc) u.tups u.frzs u.tbls (λm' hm=>by
  obtain⟨o',es',ep',ho',r'⟩:=hm;rw[ho] at ho';cases ho';exact⟨_,es',ep',hL,r'⟩) hok hg
theorem Inv.turned {t':Nat}{it:Addr}(I:Inv X pins σ H s)(k:∀ b o,b≠it→s.heap.get? b=some o→h'.get? b=some o)(hn:H it=none)(hL:it≠X.env.locals)
 (h1:it∈X.ex∨X.s₀.heap.objs.size≤it) (h2:∀ x c,X.env.cells.lookup x=some c→c≠it) (h3:∀ p∈X.pn++pins,p.1≠it):Inv X pins σ H { s with heap:=h',toks:=t' }:=by
 have nit:∀ b u,H b=some u→b≠it:=λb u e z=>by rw[z,hn] at e;cases e
 refine I.step (g':=s.gens) (d':=s.drawn) (ch:=[it]) (λb hb=>?_) (λb o _ _ hc e _=>k b o (λz=>hc (by simp[z])) e) (λb o _ _ hc e _=>⟨o.slots,k b o (λz=>hc (by simp[z])) e⟩) (λ_ _ _ _ n=>n)
  (λb o hc e=>⟨o,k b o (λz=>hc (by simp[z])) e⟩) (λ_ _ e=>e) (λ_ _ _ e=>e) (λb ps e=>⟨#[],by rw[e];simp⟩) (λm hm=>?_) (λb u e=>?_) I.bare
 ·have e:b=it:=by simpa using hb
  subst e;exact⟨h1,hL,h2,h3⟩
 ·obtain⟨o,es,ep,ho,r⟩:=hm;exact⟨o,es,ep,k _ o (Ne.symm hL) ho,r⟩
 ·refine (I.hok b u e).stay (λc v hc q=>k c v ?_ q) (λ_ q=>q) λ_ _ q=>q
  rcases hc with z|z
  ·rw[z];exact nit b u e
  ·exact nit c _ z
theorem Inv.tok (I:Inv X pins σ H s)(t:Nat):Inv X pins σ H { s with toks:=t }:=I.un (h':=s.heap) (t':=t) Un.refl I.hok
theorem Inv.kept {t':Nat}(I:Inv X pins σ H s)(k:∀ b u,s.heap.get? b=some u→h'.get? b=some u):Inv X pins σ H { s with heap:=h',toks:=t' }:=I.un (Un.kept k) (I.hok.kept k)
theorem Inv.laid {a:Addr}{o:HO}{t':Nat}(I:Inv X pins σ H s)(k:∀ b u,s.heap.get? b=some u→h'.get? b=some u)(hp:s.heap.objs.size≤a)(new:ObjOk X.prog X.w (upd H a o) h' a o) :
 Inv X pins σ (upd H a o) { s with heap:=h',toks:=t' }:=I.un (Un.laid k hp (I.hok.fresh hp)) (I.hok.laid k hp new)
theorem Inv.write {x e:Addr}{o:HO}{t':Nat}(I:Inv X pins σ H s)(mu:Mut (H x))(he:e=x∨H e=some (.own x))(k:∀ b u,b≠e→s.heap.get? b=some u→h'.get? b=some u)(heo:∃ u,h'.get? e=some u)
 (new:ObjOk X.prog X.w (upd H x o) h' x o):Inv X pins σ (upd H x o) { s with heap:=h',toks:=t' }:=I.un (Un.write mu he k heo) (I.hok.write mu he k heo new)
theorem Inv.pins_of {pins':List (Addr×Obj)}(I:Inv X pins σ H s)(h:∀ p∈pins',s.heap.get? p.1=some p.2∧H p.1=none∧p.1≠X.env.locals∧p.1 ∉ X.fs∧∀ v,p.2.data≠.cell v):Inv X pins' σ H s:=
 ⟨I.ok,I.os,I.bare,I.base,I.loc,I.cell,I.free,I.freeC,λp hp=>(List.mem_append.mp hp).elim (λz=>I.pin p (List.mem_append_left _ z)) (h p),I.hok,I.len⟩
theorem Z0F {N:List Str}(hN:N.Nodup){i j:Nat}{x:Str}(a:N[i]? = some x)(b:N[j]? = some x):i=j:=by
 obtain⟨h1,e1⟩:=List.getElem?_eq_some_iff.mp a;obtain⟨h2,e2⟩:=List.getElem?_eq_some_iff.mp b;exact (List.getElem_inj hN).mp (e1.trans e2.symm)
theorem Z4W {M:Model}{A:Around}{E:Value→Shared→Prop}{i:Nat}{x:Str}{v:V}{u:Value}{Q:Unit→Shared→Prop}(I:Inv X pins σ H s)(hN:X.N.Nodup)(hi:X.N[i]? = some x)(hx:Loc X.env.scope x)(r:RelV v u)
 (h:∀ s',Inv X pins (σ.set i (some v)) H s'→(∃ a,Heap.SameBut a s.heap s'.heap∧(a=X.env.locals∨X.env.cells.lookup x=some a))→Q () s') (hf:X.fn x=true∨X.env.scope.names.lookup x=some .local:=by first|exact .inl rfl|exact .inr rfl|assumption):wpAny M A (storeName X.env x u) Q E s:=by
 obtain⟨m,hn,hl⟩:=id I.loc;have hcls:(X.env.scope.kind == .class || (X.env.scope.kind == .module && X.env.locals != X.env.globals))=false:=by rw[I.ok.kind];rfl
 have hiσ:i < σ.length:=by rw[I.len];exact (List.getElem?_eq_some_iff.mp hi).1
 have cne:=I.cne;have tracked:∀ {a:Addr}{h':Heap},(∃ o,s.heap.get? a=some o∧H a=none)→Heap.SameBut a s.heap h'→HOk X.prog X.w H h':=fun {a h'} ha hs b ob e=>by
  obtain⟨_,_,hfree⟩:=ha;refine (I.hok b ob e).stay (λc w' hc q=>(hs.2 c ?_).trans q) (λ_ q=>q) λ_ _ q=>q;rintro rfl
  rcases hc with rfl|hc
  ·rw[hfree] at e;cases e
  ·rw[hfree] at hc;cases hc
 rcases hx with hk|hk
 ·refine wpAny_storeName_local hk hn (λh' hn' hs=>?_) hcls;obtain⟨oL,_,_,hoL,_⟩:=id hn;refine h _ ⟨I.ok,I.os,I.bare,⟨λb o e n hb hx=>?_,λb o e n hb hx=>?_,I.base.free,λb o e hx=>?_,I.base.tups,I.base.frzs,I.base.tbls⟩,⟨_,hn',λj y v' e1 e2 e3=>?_⟩,λy c e=>?_,I.free,I.freeC,λp hp=>?_,tracked ⟨oL,hoL,I.free⟩ hs,by simpa using I.len⟩ ⟨_,hs,.inl rfl⟩
  ·exact (hs.2 b (Nat.ne_of_lt (Nat.lt_of_lt_of_le (Heap.lt_size e) I.ok.above))).trans (I.base.keep b o e n hb hx)
  ·obtain⟨sl,e1⟩:=I.base.slot b o e n hb hx;exact⟨sl,(hs.2 b (Nat.ne_of_lt (Nat.lt_of_lt_of_le (Heap.lt_size e) I.ok.above))).trans e1⟩
  ·obtain⟨o',e1⟩:=I.base.there b o e hx;exact⟨o',(hs.2 b (Nat.ne_of_lt (Nat.lt_of_lt_of_le (Heap.lt_size e) I.ok.above))).trans e1⟩
  ·by_cases hj:j=i
   ·subst hj;rw[hi] at e1;cases e1;rw[List.getElem?_set_self hiσ] at e2;cases e2;exact⟨u,r,.inl ⟨hk,by simp⟩⟩
   ·rw[List.getElem?_set_ne (Ne.symm hj)] at e2;obtain⟨u',r',q⟩:=hl j y v' e1 e2 e3;refine⟨u',r',?_⟩
    rcases q with⟨k,e⟩|⟨k,c,e,z⟩
    ·refine .inl ⟨k,?_⟩;have:y≠x:=λe=>hj (Z0F hN e1 (e▸hi));simp[this,e]
    ·exact .inr ⟨k,c,e,z.sameBut hs (cne y c e)⟩
  ·obtain⟨w',z⟩:=I.cell y c e;exact⟨w',z.sameBut hs (cne y c e)⟩
  ·obtain⟨e,n,ne,nf,d⟩:=I.pin p hp;exact⟨(hs.2 p.1 ne).trans e,n,ne,nf,d⟩
 ·have hfn:X.fn x=true:=by
   rcases hf with z|z
   ·exact z
   ·rw[z] at hk;cases hk
  obtain⟨c,hc⟩:=I.ok.has x (.inl hk);obtain⟨w',z⟩:=I.cell x c hc;refine wpAny_storeName_cell I.ok.kind hk hc z (λh' hc' hs=>?_);obtain⟨oc,hoc,hocd⟩:=id z;refine h { s with heap:=h' } ⟨I.ok,I.os,I.bare,⟨λb o e n hb hx=>?_,λb o e n hb hx=>?_,I.base.free,λb o e hx=>?_,I.base.tups,I.base.frzs,I.base.tbls⟩,⟨m,hn.sameBut hs (Ne.symm (cne x c hc)),λj y v' e1 e2 e3=>?_⟩,λy c' e=>?_,I.free,I.freeC,λp hp=>?_,tracked ⟨oc,hoc,I.freeC x c hc⟩ hs,by simpa using I.len⟩ ⟨c,hs,.inr hc⟩
  ·exact (hs.2 b (Nat.ne_of_lt (Nat.lt_of_lt_of_le (Heap.lt_size e) (I.ok.cab x c hfn hc)))).trans (I.base.keep b o e n hb hx)
  ·obtain⟨sl,e1⟩:=I.base.slot b o e n hb hx;exact⟨sl,(hs.2 b (Nat.ne_of_lt (Nat.lt_of_lt_of_le (Heap.lt_size e) (I.ok.cab x c hfn hc)))).trans e1⟩
  ·obtain⟨o',e1⟩:=I.base.there b o e hx;exact⟨o',(hs.2 b (Nat.ne_of_lt (Nat.lt_of_lt_of_le (Heap.lt_size e) (I.ok.cab x c hfn hc)))).trans e1⟩
  ·by_cases hj:j=i
   ·subst hj;rw[hi] at e1;cases e1;rw[List.getElem?_set_self hiσ] at e2;cases e2;exact⟨u,r,.inr ⟨.inl hk,c,hc,hc'⟩⟩
   ·rw[List.getElem?_set_ne (Ne.symm hj)] at e2;obtain⟨u',r',q⟩:=hl j y v' e1 e2 e3;refine⟨u',r',?_⟩
    rcases q with q|⟨k,c',e,z'⟩
    ·exact .inl q
    ·refine .inr ⟨k,c',e,z'.sameBut hs ?_⟩;rintro rfl;exact hj (Z0F hN e1 (I.ok.inj _ _ _ e hc▸hi))
  ·by_cases hcc:c'=c
   ·subst hcc;exact⟨_,hc'⟩
   ·obtain⟨w2,z2⟩:=I.cell y c' e;exact⟨w2,z2.sameBut hs hcc⟩
  ·obtain⟨e,n,ne,nf,d⟩:=I.pin p hp;refine⟨(hs.2 p.1 ?_).trans e,n,ne,nf,d⟩;intro q;rw[q,hoc] at e;have q':oc=p.2:=Option.some.inj e;exact d w' (by rw[←q'];exact hocd)
theorem Z0I {M:Model}{A:Around}{E:Value→Shared→Prop}{i:Nat}{x:Str}{v:V}{u:Value}{Q:Unit→Shared→Prop}(I:Inv X pins σ H s)(hN:X.N.Nodup)(hi:X.N[i]? = some x)(hx:Loc X.env.scope x)(r:RelV v u)
 (h:∀ s',Inv X pins (σ.set i (some v)) H s'→Q () s') (hf:X.fn x=true∨X.env.scope.names.lookup x=some .local:=by first|exact .inl rfl|exact .inr rfl|assumption):wpAny M A (storeName X.env x u) Q E s:=
 Z4W I hN hi hx r (λs' I' _=>h s' I') hf
theorem Inv.call' {s':Shared}{ch:List Addr}(I:Inv X pins σ H s)(ho:s'.os=s.os)(u:Un (frs X.stack) ch H H' s.heap s'.heap)(hok:HOk X.prog X.w H' s'.heap)(hg:AllBare s'.gens)
 (hch:∀ b∈ch,(b∈X.ex∨X.s₀.heap.objs.size≤b)∧b≠X.env.locals∧(∀ x c,X.env.cells.lookup x=some c→c≠b)∧∀ p∈X.pn++pins,p.1≠b):Inv X pins σ H' s':=by
 obtain⟨h',g',d',t',o'⟩:=s';have e:o'=s.os:=ho;subst e;exact I.call (g':=g') (t':=t') (d':=d') u hok hg hch
end
noncomputable abbrev XK:=Value→Option Addr→Hp→Prop
noncomputable abbrev St:=List (Option V)
noncomputable abbrev VK:=V→Hp→Prop
noncomputable abbrev TE:=St→Hp→VK→Prop
noncomputable abbrev TT:=St→Hp→(Bool→Hp→Prop)→Prop
noncomputable abbrev TA:=St→Hp→(List V→Hp→Prop)→Prop
structure Ends where
 nx:St→Hp→Prop
 rt:VK
 bk:St→Hp→Prop:=λ_ _=>False
 ct:St→Hp→Prop:=λ_ _=>False
noncomputable abbrev TS:=Ends→St→Hp→Prop
noncomputable def EP (X:Cx)(pins:List (Addr×Obj))(σ:St)(Q:VK)(u:Value)(s':Shared):Prop:=∃ v H',Inv X pins σ H' s'∧RelV v u∧Q v H'
noncomputable def TP (X:Cx)(pins:List (Addr×Obj))(σ:St)(Q:Bool→Hp→Prop)(b:Bool)(s':Shared):Prop:=∃ H',Inv X pins σ H' s'∧Q b H'
noncomputable def AP (X:Cx)(pins:List (Addr×Obj))(σ:St)(Q:List V→Hp→Prop)(us:List Value)(s':Shared):Prop:=∃ vs H',Inv X pins σ H' s'∧Vals vs us∧Q vs H'
noncomputable def SP (X:Cx)(pins:List (Addr×Obj))(D:Ends)(f:Flow)(s':Shared):Prop:=
 match f with
 | .next=>∃ σ' H',Inv X pins σ' H' s'∧D.nx σ' H'
 | .brk=>∃ σ' H',Inv X pins σ' H' s'∧D.bk σ' H'
 | .cont=>∃ σ' H',Inv X pins σ' H' s'∧D.ct σ' H'
 | .ret u=>∃ v σ' H',Inv X pins σ' H' s'∧RelV v u∧D.rt v H'
noncomputable def PE (X:Cx)(e:Expr)(t:TE):Prop:=
 ∀ (pins:List (Addr×Obj)) (s:Shared) (σ:St) (H:Hp) (Q:VK),Inv X pins σ H s→t σ H Q→wpAny (model X.prog X.w) X.A (eval e X.env) (EP X pins σ Q) X.xe s
noncomputable def PT (X:Cx)(e:Expr)(t:TT):Prop:=
 ∀ (pins:List (Addr×Obj)) (s:Shared) (σ:St) (H:Hp) (Q:Bool→Hp→Prop),Inv X pins σ H s→t σ H Q→wpAny (model X.prog X.w) X.A (isTrue e X.env (eval e X.env)) (TP X pins σ Q) X.xe s
noncomputable def PW (X:Cx)(e:Expr)(t:TT):Prop:=
 ∀ (whole:Sem Value) (pins:List (Addr×Obj)) (s:Shared) (σ:St) (H:Hp) (Q:Bool→Hp→Prop),Inv X pins σ H s→t σ H Q→wpAny (model X.prog X.w) X.A (isTrue e X.env whole) (TP X pins σ Q) X.xe s
theorem PW.pt {X:Cx}{e:Expr}{t:TT}(h:PW X e t):PT X e t:=h _
noncomputable def PA (X:Cx)(es:List Expr)(t:TA):Prop:=
 ∀ (pos:Pos) (pins:List (Addr×Obj)) (s:Shared) (σ:St) (H:Hp) (Q:List V→Hp→Prop),Inv X pins σ H s→t σ H Q→wpAny (model X.prog X.w) X.A (spliced (backTo pos (starEach es X.env))) (AP X pins σ Q) X.xe s
noncomputable def PS (X:Cx)(st:Stmt)(t:TS):Prop:=
 ∀ (pins:List (Addr×Obj)) (s:Shared) (σ:St) (H:Hp) (D:Ends),Inv X pins σ H s→t D σ H→wpAny (model X.prog X.w) X.A (exec st X.env) (SP X pins D) X.xe s
noncomputable def PSs (X:Cx)(st:List Stmt)(t:TS):Prop:=
 ∀ (pins:List (Addr×Obj)) (s:Shared) (σ:St) (H:Hp) (D:Ends),Inv X pins σ H s→t D σ H→wpAny (model X.prog X.w) X.A (execs st X.env) (SP X pins D) X.xe s
theorem thn {α:Type}{t:Sem α}{Q Q':α→Shared→Prop}{M:Model}{A:Around}{E:Value→Shared→Prop}{s:Shared}(h:wpAny M A t Q E s)(hQ:∀ a s,Q a s→Q' a s):wpAny M A t Q' E s:=wpAny_mono h hQ λ_ _ x=>x
section
variable {X:Cx}
noncomputable def Z0C (i:Nat):TE:=λσ H Q=>∃ v,σ[i]? = some (some v)∧Q v H
noncomputable def tC (v:V):TE:=λ_ H Q=>Q v H
theorem Z84 {i:Nat}{x:Str}{pos:Pos}(hN:X.N[i]? = some x)(hv:Vis X.env.scope x)(hd:(x == ("__debug__" : Str))=false:=by decide)(hcd:(x == ("__classdict__" : Str))=false:=by decide):PE X (.Name x pos) (Z0C i):=by
 intro pins s σ H Q I h;obtain⟨v,e,h⟩:=h;obtain⟨m,hn,hl⟩:=I.loc;obtain⟨u,r,l⟩:=hl i x v hN e hv;have fin:EP X pins σ Q u s:=⟨v,H,I,r,h⟩
 rcases l with⟨hk,hm⟩|⟨hk,c,hc,hcell⟩
 ·exact wpAny_Name (wpAny_loadName_local I.ok.kind hk hn hm fin) hd
 ·rcases hk with hk|hk
  ·exact wpAny_Name (wpAny_loadName_cell I.ok.kind hk hc hcell fin) hd
  ·exact wpAny_Name (wpAny_loadName_free I.ok.kind hk hc hcell fin hcd) hd
theorem Z5 {i j pos}:PE X (.Constant (.int i) j pos) (tC (.int i)):=λ_ _ _ H _ I h=>wpAny_Constant_int ⟨.int i,H,I.tok _,⟨_,rfl⟩,h⟩
theorem XE {b j pos}:PE X (.Constant (.bool b) j pos) (tC (.bl b)):=λ_ _ _ H _ I h=>Constant_bool ⟨.bl b,H,I,rfl,h⟩
theorem Z7V {j pos}:PE X (.Constant .none j pos) (tC .non):=λ_ _ _ H _ I h=>Constant_none ⟨.non,H,I,rfl,h⟩
theorem Zb {x j pos}:PE X (.Constant (.str x) j pos) (tC (.str x)):=λ_ _ _ H _ I h=>Calls.Constant_str ⟨.str x,H,I.tok _,⟨_,rfl⟩,h⟩
noncomputable def Gl (X:Cx)(x:Str):Prop:=X.env.kindOf x=some .globalImplicit
theorem YR {E:Value→Shared→Prop}{pins:List (Addr×Obj)}{s:Shared}{σ:St}{H:Hp}{x:Str}{u:Value}{pos:Pos}{Q:Value→Shared→Prop}(I:Inv X pins σ H s)(hg:Gl X x)(hm:X.mg x=some u)(h:Q u s)
 (hd:(x == ("__debug__" : Str))=false:=by decide):wpAny (model X.prog X.w) X.A (eval (.Name x pos) X.env) Q E s:=
 Calls.Name_function_global I.ok.kind hg (Calls.loadGlobal_global (by rw[I.ok.glob];exact I.mod.glob.keeps I.bk) hm h) hd
theorem Z03 {E:Value→Shared→Prop}{pins:List (Addr×Obj)}{s:Shared}{σ:St}{H:Hp}{x:Str}{u:Value}{pos:Pos}{Q:Value→Shared→Prop}(I:Inv X pins σ H s)(hg:Gl X x)(hm:X.mg x=none)(hv:bootBuiltins x=some u)(h:Q u s)
 (hn:x≠"__name__":=by decide) (hd:(x == ("__debug__" : Str))=false:=by decide):wpAny (model X.prog X.w) X.A (eval (.Name x pos) X.env) Q E s:=by
 obtain⟨mb,h1,h2⟩:=I.mod.blt;exact Calls.Name_function_global I.ok.kind hg (Calls.loadGlobal_builtin (by rw[I.ok.glob];exact I.mod.glob.keeps I.bk) hm (by rw[I.ok.blt];exact h1.keeps I.bk) ((h2 x hn).trans hv) h) hd
theorem Zy {x:Str}{v:V}{u:Value}{pos:Pos}(hg:Gl X x)(hm:X.mg x=some u)(r:RelV v u)(hd:(x == ("__debug__" : Str))=false:=by decide):PE X (.Name x pos) (tC v):=
 λ_ _ _ H _ I h=>YR I hg hm ⟨v,H,I,r,h⟩ hd
theorem Z7t {x:Str}{v:V}{u:Value}{pos:Pos}(hg:Gl X x)(hm:X.mg x=none)(hv:bootBuiltins x=some u)(r:RelV v u)(hn:x≠"__name__":=by decide)(hd:(x == ("__debug__" : Str))=false:=by decide):PE X (.Name x pos) (tC v):=
 λ_ _ _ H _ I h=>Z03 I hg hm hv ⟨v,H,I,r,h⟩ hn hd
variable {a b:Expr}{ta tb:TE}{pos:Pos}
noncomputable def tB (t:TE):TT:=λσ H Q=>t σ H λx H1=>∃ c,x=.bl c∧Q c H1
theorem Z15 {e:Expr}{t:TE}(h:PE X e t)(he:∀ whole,isTrue e X.env whole=(do let v←whole;standAt e.pos;holding [v] (truthy v)):=by intro _;rfl):PT X e (tB t):=by
 intro pins s σ H Q I hw;refine isTrue_plain (thn (h pins s σ H _ I hw) λv s1 zq=>?_) (he _);obtain⟨x,H1,I1,r1,q1⟩:=zq;obtain⟨d,rfl,q⟩:=q1;cases r1;exact wpAny_truthy_bool ⟨H1,I1,q⟩
variable {tA tB':TT}{YW:List Expr}
noncomputable def tOr (t u:TT):TT:=λσ H Q=>t σ H λc H1=>if c=true then Q true H1 else u σ H1 Q
noncomputable def Z6b (t:TT):TT:=λσ H Q=>t σ H λc H1=>Q (!c) H1
theorem Z0Q (ha:PT X a tA):PW X (.BoolOp .Or [a] pos) tA:=by
 intro wh pins s σ H Q I h;refine isTrue_or (thn (ha pins s σ H Q I h) λc s1 e=>?_);cases c with
 | false=>exact isTrue_or_nil e
 | true=>exact e
theorem Z0P (ha:PT X a tA)(hb:PW X (.BoolOp .Or (b::YW) pos) tB'):PW X (.BoolOp .Or (a::b::YW) pos) (tOr tA tB'):=by
 intro wh pins s σ H Q I h;refine isTrue_or (thn (ha pins s σ H _ I h) λc s1 zq=>?_);obtain⟨H1,I1,q1⟩:=zq;cases c with
 | true=>exact⟨H1,I1,q1⟩
 | false=>exact hb wh pins s1 σ H1 Q I1 q1
theorem JW (ha:PT X a tA):PT X (.UnaryOp .Not a pos) (Z6b tA):=by
 intro pins s σ H Q I h;exact isTrue_not (ha pins s σ H (λc H1=>Q (!c) H1) I h)
noncomputable def Z6F (ta tb:TE):TE:=λσ H Q=>ta σ H λx H1=>∃ c,x=.bl c∧if c=true then tb σ H1 Q else Q (.bl false) H1
theorem Z57 {op}{t:TE}(h:PE X a t):PE X (.BoolOp op [a] pos) t:=λpins s σ H Q I hw=>BoolOp_one (h pins s σ H Q I hw)
theorem Z4t (ha:PE X a ta)(hb:PE X (.BoolOp .And (b::YW) pos) tb):PE X (.BoolOp .And (a::b::YW) pos) (Z6F ta tb):=by
 intro pins s σ H Q I h;refine BoolOp_and (thn (ha pins s σ H _ I h) λv s1 zq=>?_);obtain⟨x,H1,I1,r1,q1⟩:=zq;obtain⟨c,rfl,q1⟩:=q1;cases r1;refine wpAny_truthy_bool ?_;cases c with
 | true=>exact hb pins s1 σ H1 Q I1 q1
 | false=>exact⟨.bl false,H1,I1,rfl,q1⟩
end
noncomputable def SqL (K:W.Frag)(H:Hp)(a:Addr)(xs:List V):Prop:=
 Rd H a (.lst xs)∨
  ∃ (o:Obj) (its:Array Value) (n:Nat),K.lookup a=some o∧o.cls=.type "list"∧o.dict=none∧o.data=.seq its n∧its.size≤sizeLine∧Vals xs its.toList
noncomputable def SqT (K:W.Frag)(H:Hp)(a:Addr)(xs:List V):Prop:=
 Rd H a (.tup xs)∨
  ∃ (o:Obj) (its:Array Value) (n:Nat),K.lookup a=some o∧o.cls=.type "tuple"∧o.data=.seq its n∧its.size≤sizeLine∧Vals xs its.toList
noncomputable def Z8T:Value→Option V
 | .none=>some .non
 | .bool b=>some (.bl b)
 | .int i _=>some (.int i)
 | .str x _=>some (.str x)
 | .bytes b _=>some (.byt b)
 | .float b _=>some (.flt b)
 | .ref a=>some (.ref a)
 | .type n=>some (.ty n)
 | _=>none
theorem RelV.abs {x:V}{u:Value}(r:RelV x u):Z8T u=some x:=by
 cases x with
 | non=>cases r;rfl
 | bl _=>cases r;rfl
 | int _=>obtain⟨t,rfl⟩:=r;rfl
 | str _=>obtain⟨t,rfl⟩:=r;rfl
 | byt _=>obtain⟨t,rfl⟩:=r;rfl
 | flt _=>obtain⟨t,rfl⟩:=r;rfl
 | ref _=>cases r;rfl
 | ty _=>cases r;rfl
theorem RelV.inj {x y:V}{u:Value}(r:RelV x u)(q:RelV y u):x=y:=Option.some.inj (r.abs.symm.trans q.abs)
theorem Vals.inj:∀ {xs ys:List V}{us:List Value},Vals xs us→Vals ys us→xs=ys
 | _,_,_,.nil,.nil=>rfl
 | _,_,_,.cons r t,.cons r' t'=>by rw[r.inj r',Vals.inj t t']
section
variable {X:Cx}{pins:List (Addr×Obj)}{σ:St}{H:Hp}{s:Shared}{a:Addr}{xs ys:List V}
theorem SqL.of {K:W.Frag}(h:H a=some (.lst xs)):SqL K H a xs:=.inl (.inl h)
theorem SqT.of {K:W.Frag}(h:H a=some (.tup xs)):SqT K H a xs:=.inl (.inl h)
theorem Inv.list (I:Inv X pins σ H s)(h:SqL X.K H a xs):∃ its:List Value,Vals xs its∧PlainL s.heap a its.toArray∧xs.length≤sizeLine:=by
 rcases h with h|⟨o,its,n,hk,hc,hd,hs,hz,r⟩
 ·obtain⟨z,its,n,r,e⟩:=h.ok I.hok;exact⟨its,r,⟨_,n,e,rfl,rfl,rfl⟩,z⟩
 ·refine⟨its.toList,r,⟨o,n,I.kIn a o hk,hc,hd,by simpa using hs⟩,?_⟩;have e:=r.length;simp only[Array.length_toList] at e;omega
theorem Inv.tuple (I:Inv X pins σ H s)(h:SqT X.K H a xs):∃ its:List Value,Vals xs its∧IsTup s.heap a its.toArray∧xs.length≤sizeLine:=by
 rcases h with h|⟨o,its,n,hk,hc,hs,hz,r⟩
 ·obtain⟨z,its,r,p⟩:=h.ok I.hok;exact⟨its,r,p,z⟩
 ·refine⟨its.toList,r,⟨o,I.kIn a o hk,hc,n,by simpa using hs⟩,?_⟩;have e:=r.length;simp only[Array.length_toList] at e;omega
theorem Inv.list_inj (I:Inv X pins σ H s)(h:SqL X.K H a xs)(h':SqL X.K H a ys):xs=ys:=by
 obtain⟨its,r,⟨o,n,e,_,_,d⟩,_⟩:=I.list h;obtain⟨its',r',⟨o',n',e',_,_,d'⟩,_⟩:=I.list h';rw[e] at e';cases e';rw[d] at d';injection d' with d1 _
 have:its=its':=by simpa using congrArg Array.toList d1
 subst this;exact r.inj r'
end
noncomputable abbrev Cx.wish (X:Cx)(E:Value→Shared→Prop):Cx:={ X with xe:=E }
noncomputable abbrev Cx.nox (X:Cx):Cx:=X.wish λ_ _=>False
theorem Cx.Ok.wish {X:Cx}(ok:X.Ok)(E:Value→Shared→Prop):(X.wish E).Ok:=
 ⟨ok.mod,ok.kind,ok.glob,ok.blt,ok.above,ok.inj,ok.has,ok.cab,ok.hd,ok.frames,ok.stk,ok.exf,ok.bs,ok.bsz,ok.noex,ok.exfs,ok.funs,ok.frf⟩
theorem Cx.Ok.unwish {X:Cx}{E:Value→Shared→Prop}(ok:(X.wish E).Ok):X.Ok:=
 ⟨ok.mod,ok.kind,ok.glob,ok.blt,ok.above,ok.inj,ok.has,ok.cab,ok.hd,ok.frames,ok.stk,ok.exf,ok.bs,ok.bsz,ok.noex,ok.exfs,ok.funs,ok.frf⟩
section
variable {X:Cx}{pins:List (Addr×Obj)}{σ:St}{H:Hp}{s:Shared}{E:Value→Shared→Prop}
theorem Inv.wish (I:Inv X pins σ H s)(E:Value→Shared→Prop):Inv (X.wish E) pins σ H s:=⟨I.ok.wish E,I.os,I.bare,I.base,I.loc,I.cell,I.free,I.freeC,I.pin,I.hok,I.len⟩
theorem Inv.unwish (I:Inv (X.wish E) pins σ H s):Inv X pins σ H s:=⟨I.ok.unwish,I.os,I.bare,I.base,I.loc,I.cell,I.free,I.freeC,I.pin,I.hok,I.len⟩
theorem SP.unwish {D:Ends}{f:Flow}{s':Shared}(h:SP (X.wish E) pins D f s'):SP X pins D f s':=by
 cases f with
 | next=>obtain⟨σ',H',I,q⟩:=h;exact⟨σ',H',I.unwish,q⟩
 | brk=>obtain⟨σ',H',I,q⟩:=h;exact⟨σ',H',I.unwish,q⟩
 | cont=>obtain⟨σ',H',I,q⟩:=h;exact⟨σ',H',I.unwish,q⟩
 | ret u=>obtain⟨v,σ',H',I,r,q⟩:=h;exact⟨v,σ',H',I.unwish,r,q⟩
theorem PSs.nox {st:List Stmt}{t:TS}(h:PSs X.nox st t):PSs X st t:=λpins s σ H D I hw=>
 wpAny_mono (h pins s σ H D (I.wish _) hw) (λ_ _ q=>q.unwish) λ_ _ z=>False.elim z
end
section
variable {X:Cx}{st:Stmt}{YW:List Stmt}{t u:TS}{e:Expr}{te:TE}{pos:Pos}
noncomputable def Z0i:TS:=λD σ H=>D.nx σ H
noncomputable def Z2c (t u:TS):TS:=λD σ H=>t { D with nx:=u D } σ H
theorem Zq:PSs X [] Z0i:=λ_ _ σ H _ I h=>wpAny_execs_nil ⟨σ,H,I,h⟩
theorem Z8 (h1:PS X st t)(h2:PSs X YW u):PSs X (st::YW) (Z2c t u):=by
 intro pins s σ H D I h;refine wpAny_execs_cons (thn (h1 pins s σ H { D with nx:=u D } I h) λf s1 q=>?_);cases f with
 | next=>
   obtain⟨σ',H',I',q⟩:=q;exact h2 pins s1 σ' H' D I' q
 | ret v=>exact q
 | brk=>exact q
 | cont=>exact q
theorem Z7 (h1:PS X st t):PSs X [st] t:=by
 intro pins s σ H D I h;refine wpAny_execs_cons (thn (h1 pins s σ H D I h) λf s1 q=>?_);cases f with
 | next=>exact wpAny_execs_nil q
 | ret v=>exact q
 | brk=>exact q
 | cont=>exact q
theorem Inv.quiet {pins:List (Addr×Obj)}{σ:St}{H:Hp}{s:Shared}(I:Inv X pins σ H s):interactive X.env=false:=by simp[interactive,I.ok.kind]
noncomputable def Z6I (te:TE):TS:=λD σ H=>te σ H λ_ H1=>D.nx σ H1
theorem Zl (he:PE X e te)(hs:swapsWith e none pos.line X.env=pure false:=by rfl):PS X (.Expr e pos) (Z6I te):=by
 intro pins s σ H D I h;exact wpAny_Expr_any (thn (he pins s σ H _ I h) λv s1 ⟨x,H1,I1,r1,q1⟩=>⟨σ,H1,I1,q1⟩) I.quiet hs
noncomputable def Z3I (te:TE):TS:=λD σ H=>te σ H D.rt
theorem Zo (he:PE X e te):PS X (.Return (some e) pos) (Z3I te):=by
 intro pins s σ H D I h;exact wpAny_Return_some (thn (he pins s σ H _ I h) λv s1 ⟨x,H1,I1,r1,q1⟩=>⟨x,σ,H1,I1,r1,q1⟩)
noncomputable def Z8G:TS:=λD _ H=>D.rt .non H
theorem Z7b:PS X (.Return none pos) Z8G:=λ_ _ σ H _ I h=>wpAny_Return_none ⟨.non,σ,H,I,rfl,h⟩
noncomputable def Z62 (c:TT)(t u:TS):TS:=λD σ H=>c σ H λb H1=>if b=true then t D σ H1 else u D σ H1
theorem ZD {c:Expr}{a b:List Stmt}{tc:TT}(hc:PT X c tc)(ha:PSs X a t)(hb:PSs X b u):PS X (.If c a b pos) (Z62 tc t u):=by
 intro pins s σ H D I h;refine wpAny_If (thn (hc pins s σ H _ I h) λd s1 zq=>?_);obtain⟨H1,I1,q1⟩:=zq;cases d with
 | true=>exact ha pins s1 σ H1 D I1 q1
 | false=>exact hb pins s1 σ H1 D I1 q1
noncomputable def Z8d:TS:=λ_ _ _=>False
theorem Yn:PS X st Z8d:=λ_ _ _ _ _ _ h=>h.elim
end
noncomputable abbrev TG:=V→St→Hp→(St→Hp→Prop)→Prop
noncomputable abbrev TGs:=List V→St→Hp→(St→Hp→Prop)→Prop
noncomputable def PG (X:Cx)(target:Expr)(t:TG):Prop:=
 ∀ (pins:List (Addr×Obj)) (s:Shared) (σ:St) (H:Hp) (v:V) (u:Value) (Q:St→Hp→Prop),Inv X pins σ H s→RelV v u→t v σ H Q→
   wpAny (model X.prog X.w) X.A (assign target X.env u) (λ_ s'=>∃ σ' H',Inv X pins σ' H' s'∧Q σ' H') X.xe s
noncomputable def PGs (X:Cx)(ts:List Expr)(t:TGs):Prop:=
 ∀ (pins:List (Addr×Obj)) (s:Shared) (σ:St) (H:Hp) (vs:List V) (us:List Value) (Q:St→Hp→Prop),Inv X pins σ H s→Vals vs us→t vs σ H Q→
   wpAny (model X.prog X.w) X.A (assignInOrder ((assignEach ts X.env).map (·.2)) us) (λ_ s'=>∃ σ' H',Inv X pins σ' H' s'∧Q σ' H') X.xe s
noncomputable abbrev Z3X:=V→V→V→Hp→(Hp→Prop)→Prop
noncomputable def Z7S (X:Cx)(t:Z3X):Prop:=
 ∀ (pins:List (Addr×Obj)) (s:Shared) (σ:St) (H:Hp) (o i v:V) (ov iv u:Value) (Q:Hp→Prop),Inv X pins σ H s→RelV o ov→RelV i iv→RelV v u→t o i v H Q→
   wpAny (model X.prog X.w) X.A (setItem ov iv u) (λ_ s'=>∃ H',Inv X pins σ H' s'∧Q H') X.xe s
section
variable {X:Cx}{pos:Pos}
noncomputable def XF (i:Nat):TG:=λv σ H Q=>Q (σ.set i (some v)) H
theorem Zu {i:Nat}{x:Str}(hN:X.N.Nodup)(hi:X.N[i]? = some x)(hx:Loc X.env.scope x)(hf:X.fn x=true∨X.env.scope.names.lookup x=some .local:=by first|exact .inl rfl|exact .inr rfl|assumption):PG X (.Name x pos) (XF i):=by
 intro pins s σ H v u Q I r h;exact wpAny_assign_Name (Z0I I hN hi hx r (λs' I'=>⟨_,H,I',h⟩) hf)
noncomputable def Z7z:TGs:=λvs σ H Q=>vs=[]∧Q σ H
noncomputable def Z4k (t:TG)(u:TGs):TGs:=λvs σ H Q=>∃ v r,vs=v::r∧t v σ H λσ' H'=>u r σ' H' Q
theorem Jz:PGs X [] Z7z:=by
 intro pins s σ H vs us Q I r h;obtain⟨e,h⟩:=h;subst e;cases r;exact assignInOrder_nil ⟨σ,H,I,h⟩
theorem Y8 {e:Expr}{es:List Expr}{t:TG}{u:TGs}(h1:PG X e t)(h2:PGs X es u)
 (hs:(assignEach (e::es) X.env).map (·.2)=assign e X.env::(assignEach es X.env).map (·.2):=by rfl):PGs X (e::es) (Z4k t u):=by
 intro pins s σ H vs us Q I r h;obtain⟨v,vr,e1,h⟩:=h;subst e1;cases r with
 | cons r rr=>
   rw[hs];refine assignInOrder_cons (thn (h1 pins s σ H _ _ _ I r h) λ_ s1 zq=>?_);obtain⟨σ1,H1,I1,q1⟩:=zq;exact h2 pins s1 σ1 H1 _ _ Q I1 rr q1
noncomputable def Z6m (K:W.Frag)(n:Nat)(t:TGs):TG:=λv σ H Q=>∃ a xs,v=.ref a∧SqT K H a xs∧xs.length=n∧t xs σ H Q
theorem Z7Z {es:List Expr}{k:Nat}{t:TGs}{n:Nat}(hc:X.calm=true)(h:PGs X es t)
 (hn:(assignEach es X.env).length=n:=by rfl) (hst:(assignEach es X.env).findIdx? (·.1)=none:=by rfl):PG X (.Tuple es k pos) (Z6m X.K n t):=by
 intro pins s σ H v u Q I r hw;obtain⟨a,xs,e1,hq,hl,hw⟩:=hw;subst e1;cases r;obtain⟨its,rv,ht,hz⟩:=I.tuple hq;refine assign_Tuple_tuple (I.ok.hd hc) ht (by simp[hn,←hl,rv.length]) hst λh' hx=>?_;have I1:Inv X pins σ H { s with heap:=h' }:=I.kept (t':=s.toks) λb o e=>hx b o (Nat.ne_of_lt (Heap.lt_size e)) e;exact h pins _ σ H xs _ Q I1 (by simpa using rv) hw
noncomputable def Z8e (to ti:TE)(t:Z3X):TG:=λv σ H Q=>to σ H λo H1=>ti σ H1 λi H2=>t o i v H2 λH3=>Q σ H3
theorem Z0W {o i:Expr}{to ti:TE}{t:Z3X}(ho:PE X o to)(hi:PE X i ti)(hs:Z7S X t)
 (ha:∀ v,assign (.Subscript o i pos) X.env v=(do
   let ov←holding [v] (eval o X.env)
   let iv←holding [v,ov] (eval i X.env)
   standAt pos
   holding [v,ov,iv] (setItem ov iv v)
   release [v,ov,iv] []):=by intro _;rfl):PG X (.Subscript o i pos) (Z8e to ti t):=by
 intro pins s σ H v u Q I r h;rw[ha];refine wpAny_bind (wpAny_holding (thn (ho pins s σ H _ I h) λov s1 zq=>?_));obtain⟨x,H1,I1,r1,q1⟩:=zq;refine wpAny_bind (wpAny_holding (thn (hi pins s1 σ H1 _ I1 q1) λiv s2 zq=>?_));obtain⟨y,H2,I2,r2,q2⟩:=zq;refine wpAny_bind (wpAny_standAt (wpAny_bind (wpAny_holding (thn (hs pins s2 σ H2 x y v ov iv u _ I2 r1 r2 r q2) λ_ s3 zq=>?_))));obtain⟨H3,I3,q3⟩:=zq;exact wpAny_release ⟨σ,H3,I3,q3⟩
noncomputable def Z1u (te:TE)(g:TG):TS:=λD σ H=>te σ H λx H1=>g x σ H1 D.nx
theorem Z13 {tg e:Expr}{te:TE}{g:TG}(he:PE X e te)(hg:PG X tg g)(hs:swapsWithSole [tg] e pos.line X.env=pure false:=by rfl)(hw:swappedStores [tg] e X.env=pure none:=by rfl)
 (h1:(assignEach [tg] X.env).map (·.2)=[assign tg X.env]:=by rfl):PS X (.Assign [tg] e pos) (Z1u te g):=by
 intro pins s σ H D I h;refine wpAny_Assign_stores (thn (he pins s σ H _ I h) λv s1 zq=>?_) hs hw;obtain⟨x,H1,I1,r1,q1⟩:=zq;rw[h1];exact thn (hg pins s1 σ H1 x v _ I1 r1 q1) λ_ s2 q=>q
theorem Zi {i:Nat}{x:Str}{e:Expr}{te:TE}{pos':Pos}(hN:X.N.Nodup)(hi:X.N[i]? = some x)(hx:Loc X.env.scope x)(he:PE X e te)(hs:swapsWith e (some (.Name x pos')) pos.line X.env=pure false:=by rfl)(hf:X.fn x=true∨X.env.scope.names.lookup x=some .local:=by first|exact .inl rfl|exact .inr rfl|assumption) :
 PS X (.Assign [.Name x pos'] e pos) (Z1u te (XF i)):=by
 intro pins s σ H D I h;refine wpAny_Assign_Name (thn (he pins s σ H _ I h) λv s1 zq=>?_) hs;obtain⟨y,H1,I1,r1,q1⟩:=zq;exact Z0I I1 hN hi hx r1 (λs2 I2=>⟨_,H1,I2,q1⟩) hf
end
section
variable {X:Cx}{pos:Pos}
end
structure It where
 go:Nat→Hp→Prop
 yld:Nat→Hp→V→Hp→Prop
 stop:Nat→Hp→Prop
noncomputable def Xk (X:Cx)(pins:List (Addr×Obj))(H:Hp)(b:Addr):Prop:=
 H b=none∧b≠X.env.locals∧b ∉ X.fs∧(b∈X.ex∨X.s₀.heap.objs.size≤b)∧(∀ x c,X.env.cells.lookup x=some c→c≠b)∧∀ p∈X.pn++pins,p.1≠b
theorem Inv.fpOk {X:Cx}{pins:List (Addr×Obj)}{σ:St}{H H':Hp}{s:Shared}{b:Addr}(I:Inv X pins σ H s)(hb:s.heap.objs.size≤b)(hn:H' b=none):Xk X pins H' b:=by
 refine⟨hn,Nat.ne_of_gt (Nat.lt_of_lt_of_le I.lt hb),I.nofs hb,.inr (Nat.le_trans I.sz hb),λx c e z=>?_,λp hp z=>?_⟩
 ·obtain⟨v,q⟩:=I.cell x c e;exact absurd (Nat.lt_of_lt_of_le q.lt (by rw[z];exact hb)) (Nat.lt_irrefl _)
 ·exact absurd (Nat.lt_of_lt_of_le (Heap.lt_size (I.pin p hp).1) (by rw[z];exact hb)) (Nat.lt_irrefl _)
structure Turn (P:Program)(w:World)(K:W.Frag)(tg:Expr)(J:It)(fp:List Addr)(it:Addr)(tn:Nat→Heap→Prop):Prop where
 mem:it∈fp
 obj:∀ i h,tn i h→∀ b∈fp,∃ o,h.get? b=some o∧∀ v,o.data≠.cell v
 keep:∀ i h h',tn i h→(∀ b∈fp,∀ o,h.get? b=some o→h'.get? b=some o)→tn i h'
 item:∀ (X:Cx),X.prog=P→X.w=w→X.K=K→X.calm=true→∀ (i:Nat) (pins:List (Addr×Obj)) (s:Shared) (σ:St) (H:Hp) (E:Value→Shared→Prop),Inv X pins σ H s→(∀ b∈fp,Xk X pins H b)→tn i s.heap→J.go i H→
  wpAny (model P w) X.A (pyNext (.ref it)) (λr s1=>∃ u,r=some u∧
   wpAny (model P w) X.A (letOwnedTupleGo tg (.ref it) u) (λ_ s2=>∃ x H',Inv X pins σ H' s2∧RelV x u∧J.yld i H x H'∧tn (i + 1) s2.heap∧∀ b∈fp,H' b=none) E s1) E s
 done:∀ (X:Cx),X.prog=P→X.w=w→X.K=K→X.calm=true→∀ (i:Nat) (pins:List (Addr×Obj)) (s:Shared) (σ:St) (H:Hp) (E:Value→Shared→Prop),Inv X pins σ H s→(∀ b∈fp,Xk X pins H b)→tn i s.heap→J.stop i H→
  wpAny (model P w) X.A (pyNext (.ref it)) (λr s1=>r=none∧Inv X pins σ H s1) E s
 self:∀ (A:Around) (i:Nat) (s:Shared) (Q:Value→Shared→Prop) (E:Value→Shared→Prop),tn i s.heap→Q (.ref it) s→wpAny (model P w) A (pyIter (.ref it)) Q E s
noncomputable abbrev TI:=St→Hp→(It→Hp→Prop)→Prop
noncomputable def PIE (X:Cx)(pins:List (Addr×Obj))(σ:St)(tg:Expr)(R:It→Hp→Prop)(itv:Value)(s2:Shared):Prop:=
 ∃ (it:Addr) (fp:List Addr) (tn:Nat→Heap→Prop) (J:It) (H':Hp),itv=.ref it∧Inv X pins σ H' s2∧Turn X.prog X.w X.K tg J fp it tn∧tn 0 s2.heap∧(∀ b∈fp,Xk X pins H' b)∧R J H'
noncomputable def PI (X:Cx)(tg iter:Expr)(wi:TI):Prop:=
 ∀ (pins:List (Addr×Obj)) (s:Shared) (σ:St) (H:Hp) (R:It→Hp→Prop),Inv X pins σ H s→wi σ H R→
   wpAny (model X.prog X.w) X.A (eval iter X.env) (λv s1=>wpAny (model X.prog X.w) X.A (pyIter v) (PIE X pins σ tg R) X.xe s1) X.xe s
theorem Z3M {M:Model}{A:Around}{E:Value→Shared→Prop}{s:Shared}{tg:Expr}{it:Addr}{u:Value}{o:Obj}{n:String}{vs:Array Value}{Q:Unit→Shared→Prop}(ho:s.heap.get? it=some o)(hc:o.cls=.type n)(hd:o.data=.fields vs)
 (hn:["enumerate","zip","dict_itemiterator","dict_reverseitemiterator","odict_iterator","itertools.zip_longest","itertools.pairwise"].contains n=false) (hQ:Q () s):wpAny M A (letOwnedTupleGo tg (.ref it) u) Q E s:=by
 unfold letOwnedTupleGo;cases tg<;>first
  | exact wpAny_pure hQ
  | (cases u<;>first
      | exact wpAny_pure hQ
      | (refine wpAny_bind (wpAny_load ho ?_)
         rw[hc,hd];show wpAny M A (if (["enumerate","zip","dict_itemiterator","dict_reverseitemiterator","odict_iterator","itertools.zip_longest","itertools.pairwise"].contains n && vs[0]? == some (rawInt _))=true then _ else _) Q E s;rw[if_neg (by intro h;rw[hn,Bool.false_and] at h;cases h)];exact wpAny_pure hQ))
noncomputable def Itl (K:W.Frag)(a:Addr):It:=
 ⟨λi H=>∃ xs x,SqL K H a xs∧xs[i]? = some x,λi H x H'=>H'=H∧∀ xs,SqL K H a xs→xs[i]? = some x,λi H=>∃ xs,SqL K H a xs∧xs.length≤i⟩
noncomputable def Itr (lo:Int)(n:Nat):It:=⟨λi _=>i < n,λi H x H'=>H'=H∧x=.int (lo + i),λi _=>n≤i⟩
theorem Z4N {P:Program}{w:World}{K:W.Frag}{tg:Expr}(a it:Addr):Turn P w K tg (Itl K a) [it] it (λi h=>h.IsListIter it a i) where
 mem:=by simp
 obj:=λi h st b hb=>by
  have e:b=it:=by simpa using hb
  subst e;obtain⟨o,e,c,d⟩:=st;exact⟨o,e,λv z=>by rw[d] at z;cases z⟩
 keep:=λi h h' st k=>st.at λo e=>k it (by simp) o e
 item:=by
  intro X hP hw hK hc i pins s σ H E I hf st hg;subst hP hw hK;obtain⟨xs,x,hq,hx⟩:=hg;obtain⟨its,rv,p,hz⟩:=I.list hq;obtain⟨u,hu,ru⟩:=rv.get hx;obtain⟨f0,f1,f2,f3,f4,f5⟩:=hf it (by simp);refine wpAny_pyNext_list_item st p.isList (x:=u) (by simpa using hu) λh' st' sb=>?_;have I1:Inv X pins σ H { s with heap:=h' }:=I.turned (t':=s.toks) (λb o hb e=>(sb.2 b hb).trans e) f0 f1 f3 f4 f5;obtain⟨o,e,c,d⟩:=id st';exact⟨u,rfl,Z3M (s:={ s with heap:=h' }) e c d (by decide) ⟨x,H,I1,ru,⟨rfl,λys hy=>by rw[I.list_inj hy hq];exact hx⟩,st',λb hb=>(hf b hb).1⟩⟩
 done:=by
  intro X hP hw hK hc i pins s σ H E I hf st hg;subst hP hw hK;obtain⟨xs,hq,hx⟩:=hg;obtain⟨its,rv,p,hz⟩:=I.list hq;obtain⟨f0,f1,f2,f3,f4,f5⟩:=hf it (by simp);have hl:=rv.length;exact wpAny_pyNext_list_end (I.ok.hd hc) st p.isList (by simp;omega) λh' eb=>⟨rfl,I.turned (t':=s.toks) (λb o hb e=>eb b o hb e) f0 f1 f3 f4 f5⟩
 self:=λ_ _ _ _ _ st h=>wpAny_pyIter_listiter st h
theorem Z4e {P:Program}{w:World}{K:W.Frag}{tg:Expr}(it:Addr)(lo:Int)(n:Nat):Turn P w K tg (Itr lo n) [it] it (λi h=>IsRangeIter h it (lo + (i:Nat) * 1) ((n:Int) - (i:Nat)) 1) where
 mem:=by simp
 obj:=λi h st b hb=>by
  have e:b=it:=by simpa using hb
  subst e;exact⟨_,st,λv z=>by
   have z':Data.fields _=Data.cell v:=z;cases z'⟩
 keep:=λi h h' st k=>k it (by simp) _ st
 item:=by
  intro X hP hw hK hc i pins s σ H E I hf st hg;subst hP hw hK;obtain⟨f0,f1,f2,f3,f4,f5⟩:=hf it (by simp);have W:=Walks.range (prog:=X.prog) (w:=X.w) (I.ok.hd hc) it lo 1 n;refine W.item i s _ _ hg st λv h' tk hv st' kk=>?_;obtain⟨t,rfl⟩:=hv;have I1:Inv X pins σ H { s with heap:=h',toks:=tk }:=I.turned (λb o hb e=>kk b o (by simpa using hb) e) f0 f1 f3 f4 f5;refine⟨_,rfl,Z3M (s:={ s with heap:=h',toks:=tk }) (n:="range_iterator") st' rfl rfl (by decide) ⟨.int (lo + i),H,I1,⟨t,?_⟩,⟨rfl,rfl⟩,st',λb hb=>(hf b hb).1⟩⟩;rw[Int.mul_one]
 done:=by
  intro X hP hw hK hc i pins s σ H E I hf st hg;subst hP hw hK;obtain⟨f0,f1,f2,f3,f4,f5⟩:=hf it (by simp);exact wpAny_pyNext_range_end (I.ok.hd hc) st (by have:n≤i:=hg;omega) λh' eb=>⟨rfl,I.turned (t':=s.toks) (λb o hb e=>eb b o hb e) f0 f1 f3 f4 f5⟩
 self:=λ_ _ _ _ _ st h=>wpAny_pyIter_rangeiter st h
section
variable {X:Cx}{tg:Expr}
noncomputable def Z6D (K:W.Frag)(tl:TE):TI:=λσ H R=>tl σ H λx H1=>∃ a,x=.ref a∧(∃ xs,SqL K H1 a xs)∧R (Itl K a) H1
theorem Z7f {l:Expr}{tl:TE}(hl:PE X l tl):PI X tg l (Z6D X.K tl):=by
 intro pins s σ H R I h;refine thn (hl pins s σ H _ I h) λv s1 zq=>?_;obtain⟨x,H1,I1,r1,q1⟩:=zq;obtain⟨a,e,⟨xs,hq⟩,q⟩:=q1;subst e;cases r1;obtain⟨its,rv,p,hz⟩:=I1.list hq;refine wpAny_pyIter_list p.isList ?_;refine⟨s1.heap.objs.size,[s1.heap.objs.size],_,_,H1,rfl,I1.kept (t':=s1.toks) λb o e=>Heap.get?_push_of_some _ e,Z4N a _,⟨_,Heap.get?_push_size _ rfl,rfl,rfl⟩,λb hb=>?_,q⟩;have e:b=s1.heap.objs.size:=by simpa using hb
 subst e;exact I1.fpOk (Nat.le_refl _) (I1.hok.fresh (Nat.le_refl _))
theorem Z5I {pins:List (Addr×Obj)}{σ:St}{H:Hp}{s:Shared}{R:It→Hp→Prop}{E:Value→Shared→Prop}{lo hi:Int}{t u v:Tok}{tk:Nat}(I:Inv X pins σ H s)(h1:-(2 ^ 62)≤lo)(h2:lo < 2 ^ 62)(h3:-(2 ^ 62)≤hi)(h4:hi < 2 ^ 62)
 (q:R (Itr lo (hi - lo).toNat) H):wpAny (model X.prog X.w) X.A (pyIter (.ref s.heap.objs.size)) (PIE X pins σ tg R) E { s with heap:=s.heap.push { cls:=.type "range",data:=.fields #[.int lo t,.int hi u,.int 1 v] },toks:=tk }:=by
 refine wpAny_pyIter_range (IsRange.new ..) (small_one h1 h2 h3 h4) ?_;have I1:Inv X pins σ H { s with heap:=s.heap.push { cls:=.type "range",data:=.fields #[.int lo t,.int hi u,.int 1 v] },toks:=tk }:=I.kept λb o e=>Heap.get?_push_of_some _ e;refine⟨(s.heap.push { cls:=.type "range",data:=.fields #[.int lo t,.int hi u,.int 1 v] }).objs.size,[(s.heap.push { cls:=.type "range",data:=.fields #[.int lo t,.int hi u,.int 1 v] }).objs.size],_,_,H,rfl,
  I1.kept (t':=tk) λb o e=>Heap.get?_push_of_some _ e,Z4e _ lo (hi - lo).toNat,?_,λb hb=>?_,q⟩
 ·have e1:lo + ((0:Nat):Int) * 1=lo:=by simp
  have e2:(((hi - lo).toNat:Nat):Int) - ((0:Nat):Int)=Builtin.Range.rangeSize lo hi 1:=by rw[rangeSize_one];split<;>omega
  show IsRangeIter _ _ (lo + ((0:Nat):Int) * 1) ((((hi - lo).toNat:Nat):Int) - ((0:Nat):Int)) 1;rw[e1,e2];exact Heap.get?_push_size _ rfl
 ·have e:b=(s.heap.push { cls:=.type "range",data:=.fields #[.int lo t,.int hi u,.int 1 v] }).objs.size:=by simpa using hb
  subst e;exact I1.fpOk (Nat.le_refl _) (I1.hok.fresh (Nat.le_refl _))
noncomputable def Z8E (ta:TA):TI:=λσ H R=>ta σ H λvs H1=>∃ j:Int,vs=[.int j]∧-(2 ^ 62)≤j∧j < 2 ^ 62∧R (Itr 0 j.toNat) H1
theorem XQ {a:Expr}{ta:TA}{p pos:Pos}(hg:Gl X "range")(hm:X.mg "range" = none)(ha:PA X [a] ta)(hs:starEach [a] X.env=[(false,eval a X.env)]:=by rfl):PI X tg (.Call (.Name "range" p) [a] [] pos) (Z8E ta):=by
 intro pins s σ H R I h;refine Call_ (Z03 I hg hm boot_range (PyProof.Rows.callWith_type1 (thn (ha pos pins s σ H _ I h) λus s1 zq=>?_) hs rfl));obtain⟨vs,H1,I1,r1,q1⟩:=zq;obtain⟨j,e,q1,q2,q⟩:=q1;subst e;cases r1 with
 | cons r rr=>
   cases rr;obtain⟨t,rfl⟩:=r;exact call_range_1 (Z5I I1 (by omega) (by omega) q1 q2 (by simpa using q))
noncomputable def Z88 (wi:TI)(g:TG)(tb:TS):TS:=λD σ H=>wi σ H λJ H1=>∃ W:Nat→Nat→St→Hp→Prop,(∃ m,W 0 m σ H1)∧∀ i m σ H,W i m σ H→
 (J.stop i H∧D.nx σ H)∨(J.go i H∧∃ N:St→Hp→Prop,(∀ σ' H',N σ' H'→∃ m',m' < m∧W (i + 1) m' σ' H')∧∀ x H',J.yld i H x H'→g x σ H' λσ2 H2=>tb { D with nx:=N,ct:=N,bk:=D.nx } σ2 H2)
noncomputable def Z11 (fp:List Addr)(h:Heap):List (Addr×Obj):=fp.filterMap λb=>(h.get? b).map λo=>(b,o)
theorem ZZ {fp:List Addr}{h:Heap}{b:Addr}{o:Obj}(hb:b∈fp)(e:h.get? b=some o):(b,o)∈Z11 fp h:=List.mem_filterMap.mpr ⟨b,hb,by rw[e];rfl⟩
theorem Z4A {fp:List Addr}{h:Heap}{p:Addr×Obj}(hp:p∈Z11 fp h):p.1∈fp∧h.get? p.1=some p.2:=by
 obtain⟨b,hb,e⟩:=List.mem_filterMap.mp hp;cases q:h.get? b with
 | none=>rw[q] at e;cases e
 | some o=>
   rw[q] at e;have e':(b,o)=p:=Option.some.inj e;subst e';exact⟨hb,q⟩
theorem Inv.pinned {pins:List (Addr×Obj)}{σ:St}{H:Hp}{s:Shared}{fp:List Addr}(I:Inv X pins σ H s)(hf:∀ b∈fp,Xk X pins H b)(ho:∀ b∈fp,∃ o,s.heap.get? b=some o∧∀ v,o.data≠.cell v):Inv X (pins++Z11 fp s.heap) σ H s:=
 I.pins_of λp hp=>(List.mem_append.mp hp).elim (λz=>I.pin p (List.mem_append_right _ z)) λz=>by
  obtain⟨hb,e⟩:=Z4A z;obtain⟨f0,f1,f2,_⟩:=hf p.1 hb;obtain⟨o,e',d⟩:=ho p.1 hb;rw[e] at e';cases e';exact⟨e,f0,f1,f2,d⟩
theorem Inv.unpinned {pins pl:List (Addr×Obj)}{σ:St}{H:Hp}{s:Shared}(I:Inv X (pins++pl) σ H s):Inv X pins σ H s:=I.pins_of λp hp=>I.pin p (List.mem_append_right _ (List.mem_append_left _ hp))
theorem XJ {iter:Expr}{body:List Stmt}{wi:TI}{g:TG}{tb:TS}{pos:Pos}(hp:PassesOwn (model X.prog X.w) X.A X.env X.xe)(hc:X.calm=true)(hi:PI X tg iter wi)(hg:PG X tg g)(hb:PSs X body tb)
 (hs:∀ x,foldedSetIterable iter X.env x=pure x:=by intro _;rfl):PS X (.For tg iter body [] pos) (Z88 wi g tb):=by
 intro pins s σ H D I h;refine wpAny_For (thn (hi pins s σ H _ I h) λv s1 h1=>thn h1 λitv s2 h2=>?_) hs;obtain⟨it,fp,tn,J,H2,e,I2,T,st2,f2,W,⟨m0,w0⟩,turn⟩:=h2;subst e;have stat:∀ {H':Hp},(∀ b∈fp,H' b=none)→∀ b∈fp,Xk X pins H' b:=λhn b hb=>⟨hn b hb,(f2 b hb).2⟩;refine codeAny_forLoop_any (λn s'=>∃ i σ' H',Inv X pins σ' H' s'∧tn i s'.heap∧(∀ b∈fp,H' b=none)∧W i n σ' H') ?_ m0 ⟨0,σ,H2,I2,st2,λb hb=>(f2 b hb).1,w0⟩;rintro n s3 ⟨i,σ3,H3,I3,st3,fr3,w3⟩
 rcases turn i n σ3 H3 w3 with⟨stop,qn⟩|⟨go,N,hN,step⟩
 ·refine wpAny_passesOwn hp (thn (T.done X rfl rfl rfl hc i pins s3 σ3 H3 X.xe I3 (stat fr3) st3 stop) λr s4 zq=>?_);obtain⟨hr,I4⟩:=zq;subst hr;exact wpAny_execs_nil ⟨σ3,H3,I4,qn⟩
 ·refine wpAny_passesOwn hp (thn (T.item X rfl rfl rfl hc i pins s3 σ3 H3 X.xe I3 (stat fr3) st3 go) λr s4 zq=>?_);obtain⟨u,hr,h4⟩:=zq;subst hr;refine wpAny_passesOwn hp (thn h4 λ_ s5 zq=>?_);obtain⟨x,H5,I5,r5,y5,st5,fr5⟩:=zq;have I5':=I5.pinned (stat fr5) (T.obj _ _ st5);refine wpAny_passesOwn hp (thn (hg _ s5 σ3 H5 x u _ I5' r5 (step x H5 y5)) λ_ s6 zq=>?_);obtain⟨σ6,H6,I6,q6⟩:=zq;refine wpAny_passesOwn hp (thn (hb _ s6 σ6 H6 _ I6 q6) λf s7 q7=>?_);have again:∀ {σ7:St}{H7:Hp},Inv X (pins++Z11 fp s5.heap) σ7 H7 s7→N σ7 H7→∃ m,m < n∧∃ i σ' H',Inv X pins σ' H' s7∧tn i s7.heap∧(∀ b∈fp,H' b=none)∧W i m σ' H':=fun {σ7 H7} I7 n7=>by
   obtain⟨m',hm,w7⟩:=hN σ7 H7 n7;refine⟨m',hm,i + 1,σ7,H7,I7.unpinned,T.keep _ _ _ st5 λb hb o e=>(I7.pin (b,o) (List.mem_append_right _ (List.mem_append_right _ (ZZ hb e)))).1,λb hb=>?_,w7⟩;obtain⟨o,e,d⟩:=T.obj _ _ st5 b hb;exact (I7.pin (b,o) (List.mem_append_right _ (List.mem_append_right _ (ZZ hb e)))).2.1
  cases f with
  | next=>obtain⟨σ7,H7,I7,n7⟩:=q7;exact again I7 n7
  | cont=>obtain⟨σ7,H7,I7,n7⟩:=q7;exact again I7 n7
  | brk=>obtain⟨σ7,H7,I7,q7⟩:=q7;exact⟨σ7,H7,I7.unpinned,q7⟩
  | ret v=>obtain⟨x7,σ7,H7,I7,r7,q7⟩:=q7;exact⟨x7,σ7,H7,I7.unpinned,r7,q7⟩
end
theorem Z2l {K:W.Frag}{a:Addr}{xs:List V}{g:TG}{tb:TS}{D:Ends}{σ:St}{H:Hp}(Pv:Nat→St→Hp→Prop)(h0:Pv 0 σ H)(hl:∀ i σ H,i≤xs.length→Pv i σ H→SqL K H a xs)
 (hs:∀ i x σ H,xs[i]? = some x→Pv i σ H→g x σ H λσ2 H2=>tb { D with nx:=Pv (i + 1),ct:=Pv (i + 1),bk:=D.nx } σ2 H2) (hd:∀ σ H,Pv xs.length σ H→D.nx σ H) :
 ∃ W:Nat→Nat→St→Hp→Prop,(∃ m,W 0 m σ H)∧∀ i m σ H,W i m σ H→
   ((Itl K a).stop i H∧D.nx σ H)∨((Itl K a).go i H∧∃ N:St→Hp→Prop,(∀ σ' H',N σ' H'→∃ m',m' < m∧W (i + 1) m' σ' H')∧∀ x H',(Itl K a).yld i H x H'→g x σ H' λσ2 H2=>tb { D with nx:=N,ct:=N,bk:=D.nx } σ2 H2):=by
 refine⟨λi m σ H=>m=xs.length - i∧i≤xs.length∧Pv i σ H,⟨xs.length,by simp,Nat.zero_le _,h0⟩,?_⟩;rintro i m σ H ⟨rfl,hi,p⟩;have q:=hl i σ H hi p
 by_cases hlt:i < xs.length
 ·refine .inr ⟨⟨xs,xs[i],q,by simp[hlt]⟩,Pv (i + 1),λσ' H' p'=>⟨xs.length - (i + 1),by omega,rfl,hlt,p'⟩,λx H' y=>?_⟩;obtain⟨e,y⟩:=y;subst e;exact hs i x σ _ (y xs q) p
 ·have e:i=xs.length:=by omega
  subst e;exact .inl ⟨⟨xs,q,Nat.le_refl _⟩,hd σ H p⟩
theorem Z0d {lo:Int}{n:Nat}{g:TG}{tb:TS}{D:Ends}{σ:St}{H:Hp}(Pv:Nat→St→Hp→Prop)(h0:Pv 0 σ H)
 (hs:∀ i σ H,i < n→Pv i σ H→g (.int (lo + i)) σ H λσ2 H2=>tb { D with nx:=Pv (i + 1),ct:=Pv (i + 1),bk:=D.nx } σ2 H2) (hd:∀ σ H,Pv n σ H→D.nx σ H) :
 ∃ W:Nat→Nat→St→Hp→Prop,(∃ m,W 0 m σ H)∧∀ i m σ H,W i m σ H→
   ((Itr lo n).stop i H∧D.nx σ H)∨((Itr lo n).go i H∧∃ N:St→Hp→Prop,(∀ σ' H',N σ' H'→∃ m',m' < m∧W (i + 1) m' σ' H')∧∀ x H',(Itr lo n).yld i H x H'→g x σ H' λσ2 H2=>tb { D with nx:=N,ct:=N,bk:=D.nx } σ2 H2):=by
 refine⟨λi m σ H=>m=n - i∧i≤n∧Pv i σ H,⟨n,by simp,Nat.zero_le _,h0⟩,?_⟩;rintro i m σ H ⟨rfl,hi,p⟩
 by_cases hlt:i < n
 ·refine .inr ⟨hlt,Pv (i + 1),λσ' H' p'=>⟨n - (i + 1),by omega,rfl,hlt,p'⟩,λx H' y=>?_⟩;obtain⟨e,y⟩:=y;subst e y;exact hs i σ _ hlt p
 ·have e:i=n:=by omega
  subst e;exact .inl ⟨Nat.le_refl _,hd σ H p⟩
noncomputable abbrev R2:=V→V→Hp→VK→Prop
noncomputable def OpR (X:Cx)(f:Value→Value→Sem Value)(r:R2):Prop:=
 ∀ (pins:List (Addr×Obj)) (s:Shared) (σ:St) (H:Hp) (x y:V) (v u:Value) (Q:VK),Inv X pins σ H s→RelV x v→RelV y u→r x y H Q→
   wpAny (model X.prog X.w) X.A (f v u) (EP X pins σ Q) X.xe s
noncomputable def UnR (X:Cx)(f:Value→Sem Value)(r:V→Hp→VK→Prop):Prop:=
 ∀ (pins:List (Addr×Obj)) (s:Shared) (σ:St) (H:Hp) (x:V) (v:Value) (Q:VK),Inv X pins σ H s→RelV x v→r x H Q→
   wpAny (model X.prog X.w) X.A (f v) (EP X pins σ Q) X.xe s
noncomputable def YA (X:Cx)(f:Value)(r:List V→Hp→VK→Prop):Prop:=
 ∀ (pins:List (Addr×Obj)) (s:Shared) (σ:St) (H:Hp) (xs:List V) (us:List Value) (Q:VK),Inv X pins σ H s→Vals xs us→r xs H Q→
   wpAny (model X.prog X.w) X.A (call f us) (EP X pins σ Q) X.xe s
noncomputable def tOp (r:R2)(ta tb:TE):TE:=λσ H Q=>ta σ H λx H1=>tb σ H1 λy H2=>r x y H2 Q
noncomputable def tUn (r:V→Hp→VK→Prop)(ta:TE):TE:=λσ H Q=>ta σ H λx H1=>r x H1 Q
noncomputable def rI (C:Int→Int→Prop)(g:Int→Int→V):R2:=λx y H Q=>∃ i j,x=.int i∧y=.int j∧C i j∧Q (g i j) H
noncomputable def rI0 (g:Int→Int→V):R2:=λx y H Q=>∃ i j,x=.int i∧y=.int j∧Q (g i j) H
noncomputable def rU (g:Int→V):V→Hp→VK→Prop:=λx H Q=>∃ i,x=.int i∧Q (g i) H
section
variable {X:Cx}{a b c:Expr}{ta tb tc:TE}{pos:Pos}
theorem Z5Z (ha:PE X a ta)(hb:PE X b tb){pins:List (Addr×Obj)}{s:Shared}{σ:St}{H:Hp}{R:V→V→Hp→Prop}(I:Inv X pins σ H s)
 (h:ta σ H λx H1=>tb σ H1 λy H2=>R x y H2) {Q:Value→Shared→Prop}{f:Value→Value→Sem Value}
 (hf:∀ v u s2 x y H2,Inv X pins σ H2 s2→RelV x v→RelV y u→R x y H2→wpAny (model X.prog X.w) X.A (f v u) Q X.xe s2) :
 wpAny (model X.prog X.w) X.A (eval a X.env) (λv s₁=>wpAny (model X.prog X.w) X.A (eval b X.env) (λu s₂=>wpAny (model X.prog X.w) X.A (f v u) Q X.xe s₂) X.xe s₁) X.xe s:=by
 refine thn (ha pins s σ H _ I h) λv s1 zq=>?_;obtain⟨x,H1,I1,r1,q1⟩:=zq;refine thn (hb pins s1 σ H1 _ I1 q1) λu s2 zq=>?_;obtain⟨y,H2,I2,r2,q2⟩:=zq;exact hf v u s2 x y H2 I2 r1 r2 q2
theorem Zd {op:Operator}{r:R2}(ho:OpR X (binaryOp op) r)(ha:PE X a ta)(hb:PE X b tb):PE X (.BinOp a op b pos) (tOp r ta tb):=by
 intro pins s σ H Q I h;exact wpAny_BinOp (Z5Z ha hb I h λv u s2 x y H2 I2 rx ry q=>ho pins s2 σ H2 x y v u Q I2 rx ry q)
theorem Z8u {op:UnaryOp}{r:V→Hp→VK→Prop}(ho:UnR X (unaryOp op) r)(ha:PE X a ta):PE X (.UnaryOp op a pos) (tUn r ta):=by
 intro pins s σ H Q I h;exact UnaryOp_ (thn (ha pins s σ H _ I h) λv s1 ⟨x,H1,I1,r1,q1⟩=>ho pins s1 σ H1 x v Q I1 r1 q1)
theorem opI {f:Value→Value→Sem Value}{C:Int→Int→Prop}{g:Int→Int→Int}
 (rule:∀ (i j:Int) (t u:Tok) (s:Shared) (Q:Value→Shared→Prop) (E:Value→Shared→Prop),C i j→Q (.int (g i j) s.toks) { s with toks:=s.toks + 1 }→wpAny (model X.prog X.w) X.A (f (.int i t) (.int j u)) Q E s) :
 OpR X f (rI C λi j=>.int (g i j)):=by
 intro pins s σ H x y v u Q I rx ry h;obtain⟨i,j,rfl,rfl,hc,q⟩:=h;obtain⟨t,rfl⟩:=rx;obtain⟨t',rfl⟩:=ry;exact rule i j t t' s _ _ hc ⟨.int (g i j),H,I.tok _,⟨_,rfl⟩,q⟩
theorem Z7U {f:Value→Value→Sem Value}{g:Int→Int→Int}
 (rule:∀ (i j:Int) (t u:Tok) (s:Shared) (Q:Value→Shared→Prop) (E:Value→Shared→Prop),Q (.int (g i j) s.toks) { s with toks:=s.toks + 1 }→wpAny (model X.prog X.w) X.A (f (.int i t) (.int j u)) Q E s) :
 OpR X f (rI0 λi j=>.int (g i j)):=by
 intro pins s σ H x y v u Q I rx ry h;obtain⟨i,j,rfl,rfl,q⟩:=h;obtain⟨t,rfl⟩:=rx;obtain⟨t',rfl⟩:=ry;exact rule i j t t' s _ _ ⟨.int (g i j),H,I.tok _,⟨_,rfl⟩,q⟩
theorem Z4b {f:Value→Value→Sem Value}{g:Int→Int→Bool}
 (rule:∀ (i j:Int) (t u:Tok) (s:Shared) (Q:Value→Shared→Prop) (E:Value→Shared→Prop),Q (.bool (g i j)) s→wpAny (model X.prog X.w) X.A (f (.int i t) (.int j u)) Q E s) :
 OpR X f (rI0 λi j=>.bl (g i j)):=by
 intro pins s σ H x y v u Q I rx ry h;obtain⟨i,j,rfl,rfl,q⟩:=h;obtain⟨t,rfl⟩:=rx;obtain⟨t',rfl⟩:=ry;exact rule i j t t' s _ _ ⟨.bl (g i j),H,I,rfl,q⟩
noncomputable def Z8M (i j:Int):Prop:=0 < j∧j < 1073741824
noncomputable def Z8S (i j:Int):Prop:=0≤j∧j≤1000000∧i.natAbs < 2 ^ 64
noncomputable def CMul (i j:Int):Prop:=(-(2 ^ 64) < i∧i < 2 ^ 64)∨(-(2 ^ 64) < j∧j < 2 ^ 64)
theorem CMul.ok {i j:Int}(h:CMul i j):IntMulOk i j:=by
 rcases h with⟨h1,h2⟩|⟨h1,h2⟩
 ·exact .of_left (intBits_le_64 h1 h2)
 ·exact .of_right (intBits_le_64 h1 h2)
theorem ZE:OpR X (binaryOp .Add) (rI0 λi j=>.int (i + j)):=Z7U λ_ _ _ _ _ _ _ q=>add_int q
theorem Z8f:OpR X (binaryOp .Sub) (rI0 λi j=>.int (i - j)):=Z7U λ_ _ _ _ _ _ _ q=>sub_int q
theorem Jy:OpR X (binaryOp .Mult) (rI CMul λi j=>.int (i * j)):=opI λ_ _ _ _ _ _ _ hc q=>mul_int q hc.ok
theorem Jw:OpR X (binaryOp .FloorDiv) (rI Z8M λi j=>.int (i / j)):=opI λi j _ _ _ _ _ hc q=>by
 have h1:(0:Int) < j:=hc.1;have h2:j < 1073741824:=hc.2;exact floordiv_int (by omega) (by rw[Int.fdiv_eq_ediv_of_nonneg i (by omega)];exact q) (.inl (PyProof.noPylong_small (by omega)))
theorem Y9:OpR X (binaryOp .Mod) (rI (λ_ j=>0 < j) λi j=>.int (i % j)):=opI λi j _ _ _ _ _ hc q=>by
 have h1:(0:Int) < j:=hc;exact mod_int' (by omega) (by rw[Int.fmod_eq_emod_of_nonneg i (by omega)];exact q)
theorem Z2f:OpR X (binaryOp .Pow) (rI Z8S λi j=>.int (i ^ j.toNat)):=opI λ_ _ _ _ _ _ _ hc q=>pow_int_small hc.1 hc.2.1 hc.2.2 q
theorem unI {f:Value→Sem Value}{g:Int→Int}
 (rule:∀ (i:Int) (t:Tok) (s:Shared) (Q:Value→Shared→Prop) (E:Value→Shared→Prop),Q (.int (g i) s.toks) { s with toks:=s.toks + 1 }→wpAny (model X.prog X.w) X.A (f (.int i t)) Q E s) :
 UnR X f (rU λi=>.int (g i)):=by
 intro pins s σ H x v Q I rx h;obtain⟨i,rfl,q⟩:=h;obtain⟨t,rfl⟩:=rx;exact rule i t s _ _ ⟨.int (g i),H,I.tok _,⟨_,rfl⟩,q⟩
theorem Z87:UnR X (unaryOp .USub) (rU λi=>.int (-i)):=unI λ_ _ _ _ _ q=>neg_int q
end
noncomputable def Z7N:V→V→Bool
 | .non,.non=>true|.non,.int _=>true|.int _,.non=>true|.non,.bl _=>true|.bl _,.non=>true|.non,.str _=>true|.str _,.non=>true
 | .int _,.int _=>true|.bl _,.bl _=>true|.str _,.str _=>true|.byt _,.byt _=>true
 | .int _,.str _=>true|.str _,.int _=>true|.bl _,.str _=>true|.str _,.bl _=>true
 | _,_=>false
noncomputable def rEq:R2:=λx y H Q=>Z7N x y=true∧Q (.bl (decide (x=y))) H
noncomputable def rNe:R2:=λx y H Q=>Z7N x y=true∧Q (.bl (!decide (x=y))) H
theorem Z3w {i j:Int}:decide (V.int i=V.int j)=(i == j):=by
 rw[Bool.eq_iff_iff];simp
theorem Z4Z {i j:Bool}:decide (V.bl i=V.bl j)=(i == j):=by
 rw[Bool.eq_iff_iff];simp
theorem Y2 {i j:Str}:decide (V.str i=V.str j)=(i == j):=by
 rw[Bool.eq_iff_iff];simp
theorem Z3x {i j:Array UInt8}:decide (V.byt i=V.byt j)=(i.toList == j.toList):=by
 rw[Bool.eq_iff_iff];cases i;cases j;simp
section
variable {X:Cx}{a b c:Expr}{ta tb tc:TE}{pos:Pos}
theorem Zp {pins:List (Addr×Obj)}{σ:St}{H:Hp}{s:Shared}{Q:VK}{k k':Bool}(I:Inv X pins σ H s)(q:Q (.bl k) H)(e:k=k'):EP X pins σ Q (.bool k') s:=by
 subst e;exact⟨.bl k,H,I,rfl,q⟩
theorem Yz:OpR X (compareOp .Eq) rEq:=by
 intro pins s σ H x y v u Q I rx ry h;obtain⟨hs,q⟩:=h;cases x with
 | non=>
   cases rx;cases y with
   | non=>cases ry;exact PySem.EqNone.eq_none_none (Zp I q (by simp))
   | bl j=>cases ry;exact PySem.EqNone.eq_none_bool (Zp I q (by simp))
   | int j=>obtain⟨t',rfl⟩:=ry;exact PySem.EqNone.eq_none_int (Zp I q (by simp))
   | str j=>obtain⟨t',rfl⟩:=ry;exact PySem.EqNone.eq_none_str (Zp I q (by simp))
   | _=>exact absurd (show false=true from hs) Bool.false_ne_true
 | bl i=>
   cases rx;cases y with
   | non=>cases ry;exact PySem.EqNone.eq_bool_none (Zp I q (by simp))
   | bl j=>cases ry;exact eq_bool (Zp I q Z4Z)
   | str j=>obtain⟨t',rfl⟩:=ry;exact PySem.EqMixed.eq_bool_str (Zp I q (by simp))
   | _=>exact absurd (show false=true from hs) Bool.false_ne_true
 | int i=>
   obtain⟨t,rfl⟩:=rx;cases y with
   | non=>cases ry;exact PySem.EqNone.eq_int_none (Zp I q (by simp))
   | int j=>obtain⟨t',rfl⟩:=ry;exact eq_int (Zp I q Z3w)
   | str j=>obtain⟨t',rfl⟩:=ry;exact PySem.EqMixed.eq_int_str (Zp I q (by simp))
   | _=>exact absurd (show false=true from hs) Bool.false_ne_true
 | str i=>
   obtain⟨t,rfl⟩:=rx;cases y with
   | non=>cases ry;exact PySem.EqNone.eq_str_none (Zp I q (by simp))
   | bl j=>cases ry;exact PySem.EqMixed.eq_str_bool (Zp I q (by simp))
   | int j=>obtain⟨t',rfl⟩:=ry;exact PySem.EqMixed.eq_str_int (Zp I q (by simp))
   | str j=>obtain⟨t',rfl⟩:=ry;exact eq_str (Zp I q Y2)
   | _=>exact absurd (show false=true from hs) Bool.false_ne_true
 | byt i=>
   obtain⟨t,rfl⟩:=rx;cases y with
   | byt j=>obtain⟨t',rfl⟩:=ry;exact W.eq_bytes (Zp I q Z3x)
   | _=>exact absurd (show false=true from hs) Bool.false_ne_true
 | _=>cases y<;>exact absurd (show false=true from hs) Bool.false_ne_true
theorem Jm:OpR X (compareOp .NotEq) rNe:=by
 intro pins s σ H x y v u Q I rx ry h;obtain⟨hs,q⟩:=h;cases x with
 | non=>
   cases rx;cases y with
   | non=>cases ry;exact PySem.EqNone.ne_none_none (Zp I q (by simp))
   | bl j=>cases ry;exact PySem.EqNone.ne_none_bool (Zp I q (by simp))
   | int j=>obtain⟨t',rfl⟩:=ry;exact PySem.EqNone.ne_none_int (Zp I q (by simp))
   | str j=>obtain⟨t',rfl⟩:=ry;exact PySem.EqNone.ne_none_str (Zp I q (by simp))
   | _=>exact absurd (show false=true from hs) Bool.false_ne_true
 | bl i=>
   cases rx;cases y with
   | non=>cases ry;exact PySem.EqNone.ne_bool_none (Zp I q (by simp))
   | bl j=>cases ry;exact ne_bool (Zp I q (congrArg not Z4Z))
   | str j=>obtain⟨t',rfl⟩:=ry;exact PySem.EqMixed.ne_bool_str (Zp I q (by simp))
   | _=>exact absurd (show false=true from hs) Bool.false_ne_true
 | int i=>
   obtain⟨t,rfl⟩:=rx;cases y with
   | non=>cases ry;exact PySem.EqNone.ne_int_none (Zp I q (by simp))
   | int j=>obtain⟨t',rfl⟩:=ry;exact ne_int (Zp I q (congrArg not Z3w))
   | str j=>obtain⟨t',rfl⟩:=ry;exact PySem.EqMixed.ne_int_str (Zp I q (by simp))
   | _=>exact absurd (show false=true from hs) Bool.false_ne_true
 | str i=>
   obtain⟨t,rfl⟩:=rx;cases y with
   | non=>cases ry;exact PySem.EqNone.ne_str_none (Zp I q (by simp))
   | bl j=>cases ry;exact PySem.EqMixed.ne_str_bool (Zp I q (by simp))
   | int j=>obtain⟨t',rfl⟩:=ry;exact PySem.EqMixed.ne_str_int (Zp I q (by simp))
   | str j=>obtain⟨t',rfl⟩:=ry;exact ne_str (Zp I q (congrArg not Y2))
   | _=>exact absurd (show false=true from hs) Bool.false_ne_true
 | byt i=>
   obtain⟨t,rfl⟩:=rx;cases y with
   | byt j=>obtain⟨t',rfl⟩:=ry;exact W.ne_bytes (Zp I q (congrArg not Z3x))
   | _=>exact absurd (show false=true from hs) Bool.false_ne_true
 | _=>cases y<;>exact absurd (show false=true from hs) Bool.false_ne_true
theorem Z6M:OpR X (compareOp .Lt) (rI0 λi j=>.bl (decide (i < j))):=Z4b λ_ _ _ _ _ _ _ q=>lt_int q
theorem Z16:OpR X (compareOp .LtE) (rI0 λi j=>.bl (decide (i≤j))):=Z4b λ_ _ _ _ _ _ _ q=>le_int q
theorem Z8x:OpR X (compareOp .Gt) (rI0 λi j=>.bl (decide (j < i))):=Z4b λ_ _ _ _ _ _ _ q=>gt_int q
theorem Z6x:OpR X (compareOp .GtE) (rI0 λi j=>.bl (decide (j≤i))):=Z4b λ_ _ _ _ _ _ _ q=>ge_int q
theorem Z4O:OpR X (compareOp .In) (λx y H Q=>∃ i j,x=.str i∧y=.str j∧Q (.bl (!(Builtin.Str.occurrences j i 0 j.length 1).isEmpty)) H):=by
 intro pins s σ H x y v u Q I rx ry h;obtain⟨i,j,rfl,rfl,q⟩:=h;obtain⟨t,rfl⟩:=rx;obtain⟨t',rfl⟩:=ry;exact in_str (Zp I q rfl)
theorem Z6Y:OpR X (compareOp .IsNot) (λx y H Q=>y=.non∧Q (.bl (!decide (x=.non))) H):=by
 intro pins s σ H x y v u Q I rx ry h;obtain⟨rfl,q⟩:=h;cases ry;refine isnot_none_gen (Zp I q ?_);cases x<;>first
  | (cases rx;rfl)
  | (obtain⟨t,rfl⟩:=rx;rfl)
theorem Zs (b:Expr){op:CmpOp}(h:op≠.In:=by decide)(h2:op≠.NotIn:=by decide):behindInMarks op b=false:=by
 have e1:(op == CmpOp.In)=false:=by cases op<;>first|rfl|exact absurd rfl h
 have e2:(op == CmpOp.NotIn)=false:=by cases op<;>first|rfl|exact absurd rfl h2
 cases b<;>simp[behindInMarks,e1,e2]
theorem Z1n {op:CmpOp}{r:R2}(ho:OpR X (compareOp op) r)(ha:PE X a ta)(hb:PE X b tb)(hm:behindInMarks op b=false):PE X (.Compare a [op] [b] pos) (tOp r ta tb):=by
 intro pins s σ H Q I h;exact wpAny_Compare1 (Z5Z ha hb I h λv u s2 x y H2 I2 rx ry q=>ho pins s2 σ H2 x y v u Q I2 rx ry q) hm
noncomputable def Z3J (t:TE):TT:=λσ H Q=>t σ H λx H'=>∃ k,x=.bl k∧Q k H'
theorem Zm {op:CmpOp}{r:R2}(ho:OpR X (compareOp op) r)(ha:PE X a ta)(hb:PE X b tb)(hm:behindInMarks op b=false):PT X (.Compare a [op] [b] pos) (Z3J (tOp r ta tb)):=by
 intro pins s σ H Q I h;refine wpAny_isTrue_Compare1 (thn (ha pins s σ H _ I h) λv s1 ⟨x,H1,I1,r1,q1⟩=>thn (hb pins s1 σ H1 _ I1 q1) λu s2 ⟨y,H2,I2,r2,q2⟩=>
  thn (ho pins s2 σ H2 x y v u _ I2 r1 r2 q2) λc s3 ⟨z,H3,I3,r3,k,e,q3⟩=>?_) hm
 subst e;cases r3;exact wpAny_truthy_bool ⟨H3,I3,q3⟩
noncomputable def Z2b (r r':R2)(ta tb tc:TE):TE:=λσ H Q=>ta σ H λx H1=>tb σ H1 λy H2=>r x y H2 λz H3=>∃ k,z=.bl k∧
 (if k=true then tc σ H3 λw' H4=>r' y w' H4 Q else Q (.bl false) H3)
theorem Z6e {op op':CmpOp}{r r':R2}(ho:OpR X (compareOp op) r)(ho':OpR X (compareOp op') r')(ha:PE X a ta)(hb:PE X b tb)(hc:PE X c tc)
 (hm:lastMarks [op,op'] [b,c]=false:=by with_unfolding_all rfl):PE X (.Compare a [op,op'] [b,c] pos) (Z2b r r' ta tb tc):=by
 intro pins s σ H Q I h;refine Compare_chain (thn (ha pins s σ H _ I h) λv s1 ⟨x,H1,I1,r1,q1⟩=>chain_link (thn (hb pins s1 σ H1 _ I1 q1) λu s2 ⟨y,H2,I2,r2,q2⟩=>
  thn (ho pins s2 σ H2 x y v u _ I2 r1 r2 q2) λd s3 ⟨z,H3,I3,r3,k,e,q3⟩=>?_)) hm
 subst e;cases r3;refine wpAny_truthy_bool ?_;cases k with
 | false=>exact ite_ff ⟨.bl false,H3,I3,rfl,q3⟩
 | true=>exact ite_tt (chain_last (thn (hc pins s3 σ H3 _ I3 q3) λw' s4 ⟨z',H4,I4,r4,q4⟩=>ho' pins s4 σ H4 y z' u w' Q I4 r2 r4 q4))
theorem Z2z {op op':CmpOp}{r r':R2}(ho:OpR X (compareOp op) r)(ho':OpR X (compareOp op') r')(ha:PE X a ta)(hb:PE X b tb)(hc:PE X c tc)
 (hm:lastMarks [op,op'] [b,c]=false:=by with_unfolding_all rfl):PT X (.Compare a [op,op'] [b,c] pos) (Z3J (Z2b r r' ta tb tc)):=by
 intro pins s σ H Q I h;refine isTrue_chain (thn (ha pins s σ H _ I h) λv s1 ⟨x,H1,I1,r1,q1⟩=>test_link (thn (hb pins s1 σ H1 _ I1 q1) λu s2 ⟨y,H2,I2,r2,q2⟩=>
  thn (ho pins s2 σ H2 x y v u _ I2 r1 r2 q2) λd s3 ⟨z,H3,I3,r3,k,e,q3⟩=>?_)) hm
 subst e;cases r3;refine wpAny_truthy_bool ?_;cases k with
 | false=>
   obtain⟨k',e',q'⟩:=q3;cases e';exact ite_ff ⟨H3,I3,q'⟩
 | true=>
   refine ite_tt (test_last (thn (hc pins s3 σ H3 _ I3 q3) λw' s4 ⟨z',H4,I4,r4,q4⟩=>thn (ho' pins s4 σ H4 y z' u w' _ I4 r2 r4 q4) λd' s5 zq=>?_));obtain⟨z2,H5,I5,r5,k2,e2,q5⟩:=zq;subst e2;cases r5;exact wpAny_truthy_bool ⟨H5,I5,q5⟩
theorem Jt:(sizeLine:Nat) < 2 ^ 63:=by rw[sizeLine_eq];decide
theorem JB:OpR X (binaryOp .Add) (λx y H Q=>∃ i j,x=.str i∧y=.str j∧i.length + j.length≤sizeLine∧Q (.str (i++j)) H):=by
 intro pins s σ H x y v u Q I rx ry h;obtain⟨i,j,rfl,rfl,hz,q⟩:=h;obtain⟨t,rfl⟩:=rx;obtain⟨t',rfl⟩:=ry;exact add_str (λt' tk=>⟨.str (i++j),H,I.tok _,⟨_,rfl⟩,q⟩) hz
theorem Xc {x:V}{us:List Value}(r:Vals [x] us):∃ u,us=[u]∧RelV x u:=by
 cases r with
 | cons r1 r2=>cases r2;exact⟨_,rfl,r1⟩
theorem Z6v {x y:V}{us:List Value}(r:Vals [x,y] us):∃ u w',us=[u,w']∧RelV x u∧RelV y w':=by
 cases r with
 | cons r1 r2=>
   cases r2 with
   | cons r3 r4=>cases r4;exact⟨_,_,rfl,r1,r3⟩
theorem Z4X (hc:X.calm=true):YA X (.builtin "max") (λxs H Q=>∃ i j,xs=[.int i,.int j]∧Q (.int (if j > i then j else i)) H):=by
 intro pins s σ H xs us Q I r h;obtain⟨i,j,rfl,q⟩:=h;obtain⟨u,w',rfl,⟨t,rfl⟩,⟨t',rfl⟩⟩:=Z6v r;refine max_two_ints (I.ok.hd hc) λh' tk k=>⟨_,H,I.kept k,?_,q⟩
 by_cases hj:j > i
 ·rw[if_pos hj,if_pos hj];exact⟨_,rfl⟩
 ·rw[if_neg hj,if_neg hj];exact⟨_,rfl⟩
end
structure ObjM (h:Heap)(x dx C:Addr)(mA:Str→Option Value):Prop where
 obj:h.get? x=some (W.instObj C dx)
 ns:h.Ns1 dx mA
 ne:dx≠x
theorem Z4x {h:Heap}{dx:Addr}{mA:Str→Option Value}(n:h.Ns1 dx mA):∃ od,h.get? dx=some od∧∀ name,W.lookIn name od=some (mA name):=by
 obtain⟨o,es,ep,ho,hd,hk,_,hm⟩:=n;refine⟨o,ho,λname=>?_⟩;have e:=hm name;unfold nsFind findBy at e;rw[←Array.find?_toList] at e;unfold W.lookIn;rw[hd];dsimp only
 split
 ·rename_i y q;rw[q] at e;exact congrArg some e
 ·rename_i q;rw[q] at e;have a:es.toList.any (·.refKey)=false:=by
   rw[List.any_eq_false];intro y hy;obtain⟨z,t,hkey⟩:=hk y (Array.mem_toList_iff.mp hy);simp[DictEntry.refKey,hkey]
  have a':¬ es.toList.any (·.refKey)=true:=by rw[a];exact Bool.false_ne_true
  rw[if_neg a'];exact congrArg some e
theorem ObjM.look {h:Heap}{x dx C:Addr}{mA:Str→Option Value}(I:ObjM h x dx C mA):∃ od,W.InstAt h x (W.instObj C dx) C (some od)∧∀ name,W.lookIn name od=some (mA name):=
 let ⟨od,ho,hl⟩:=Z4x I.ns
 ⟨od,⟨I.obj,rfl,rfl,ho⟩,hl⟩
section
variable {prog:Program}{w:World}{A:Around}{E:Value→Shared→Prop}{s:Shared}{K:W.Frag}{x dx C f:Addr}{mA:Str→Option Value}{name:Str}{v:Value}
theorem Z7i {expr:Bool}{Q:Value→Shared→Prop}(X:K.In s.heap)(I:ObjM s.heap x dx C mA)(hg:W.plainGet K C name=true)(hh:W.hasDictIn K C=true)
 (ha:W.findIn K (.ref C) name=some none) (hv:mA name=some v) (hv':W.handedIn v=true) (h:Q v { s with toks:=s.toks + 1 }) :
 wpAny (model prog w) A (getAttr (.ref x) name expr) Q E s:=by
 obtain⟨od,J,hl⟩:=I.look;exact W.get_value X J (W.plainGet_of hg).1 (W.findObj_own hh ha rfl (by rw[hl,hv])) hv' h
theorem Z5x {pl:Sem Bool}{Q:Value×List Value→Shared→Prop}(X:K.In s.heap)(I:ObjM s.heap x dx C mA)(hg:W.plainGet K C name=true)
 (hf:W.findIn K (.ref C) name=some (some (.ref f))) (ht:W.isFn K (.ref f)=true) (hv:mA name=none) (h:Q (.ref f,[.ref x]) s) :
 wpAny (model prog w) A (getMethod (.ref x) name pl) Q E s:=by
 obtain⟨od,J,hl⟩:=I.look;exact W.method_fn X J (W.plainGet_of hg).1 (W.plainGet_of hg).2 hf (beq_iff_eq.mp ht) (by show (W.lookIn name od).map (·.isSome)=some false;rw[hl,hv];rfl) h
theorem Z75 {ns:List Str}{Q:Unit→Shared→Prop}(X:K.In s.heap)(I:ObjM s.heap x dx C mA)
 (hs:W.findIn K (.ref C) "__setattr__" = some (some (.builtin "object.__setattr__"))) (hp:W.plainOver K C=true) (ht:W.takerIn K C name=some none) (hh:W.hasDictIn K C=true)
 (hw:PySem.Within mA ns) (hsz:ns.length≤sizeLine)
 (h:∀ h',ObjM h' x dx C (λy=>if y=name then some v else mA y)→Heap.SameBut dx s.heap h'→Q () { s with heap:=h',toks:=s.toks + 2 }) :
 wpAny (model prog w) A (setAttr (.ref x) name v) Q E s:=by
 obtain⟨od,J,hl⟩:=I.look;refine W.set_plain X J hs (W.osa_open (s:={ s with toks:=s.toks + 1 }) (r:=none) X J hp ht λb=>?_);obtain⟨cd,hc,hd'⟩:=W.any_some hh;have hx:s.heap.get? x=some ⟨.ref C,some dx,.plain,#[]⟩:=I.obj;refine wpAny_bind (wpAny_pure (wpAny_bind (wpAny_bind (wpAny_loadPart hx (wpAny_bind (W.Looks.here (s:={ s with toks:=s.toks + 1 }) (W.looks_clsIn X hc) ?_))))));rw[hd'];refine wpAny_pure (a:=some dx) (wpAny_bind (wpAny_pure (wpAny_bind ?_)));refine wpAny_nsSet1 (s:={ s with toks:=s.toks + 1 }) I.ns λh' hn2 hs2=>?_;obtain⟨oD,esD,epD,hoD,hdD,hcD⟩:=hn2.count (PySem.Within.cons name v hw);refine wpAny_bind (wpAny_lookBehind hoD (by rw[hdD];exact pastItsLine_dict (Nat.le_trans hcD (by rw[List.length_cons];omega))) ?_);exact wpAny_pure (h _ ⟨(hs2.2 _ (Ne.symm I.ne)).trans I.obj,hn2,I.ne⟩ hs2)
theorem Z6h {R:Result→Shared→Prop}{vs:List Value}{kw:List (Str×Value)}(X:K.In s.heap)(hm:W.makesIn K C=true)
 (hi:W.findIn K (.ref C) "__init__" = some (some (.ref f))) (hf:W.typeIn K (.ref f)=some (.type "function"))
 (h:codeAny (model prog w) (A.under (.builtin "type.__call__" ⟨.ref C::vs,kw⟩)) (.call (.ref f) ⟨.ref (s.heap.objs.size + 1)::vs,kw⟩) (W.InitBack (s.heap.objs.size + 1) R)
   { s with heap:=(s.heap.push W.emptyDict).push (W.instObj C s.heap.objs.size) }) :
 codeAny (model prog w) A (.call (.ref C) ⟨vs,kw⟩) R s:=by
 obtain⟨hh,g,d,t,os⟩:=s;exact W.make_core (W.makes_of X hm) (W.looks_findIn X hi) (λself=>W.bind_fn X self hf) (.inl rfl) h
end
noncomputable def ZA (f:Str)(v:V):List (Str×V)→List (Str×V)
 | []=>[(f,v)]
 | (g,x)::r=>if g=f then (g,v)::r else (g,x)::ZA f v r
theorem Z0v (f g:Str)(v:V):∀ fs:List (Str×V),(ZA f v fs).lookup g=if g=f then some v else fs.lookup g
 | []=>by
   show List.lookup g [(f,v)]=_
   by_cases h:g=f
   ·have hb:(g == f)=true:=beq_iff_eq.mpr h;simp only[List.lookup,hb,if_pos h]
   ·have hb:(g == f)=false:=beq_eq_false_iff_ne.mpr h;simp only[List.lookup,hb,if_neg h]
 | (k,x)::r=>by
   have ih:=Z0v f g v r;rw[show ZA f v ((k,x)::r)=(if k=f then (k,v)::r else (k,x)::ZA f v r) from rfl]
   by_cases hk:k=f
   ·rw[if_pos hk]
    by_cases h:g=k
    ·have hb:(g == k)=true:=beq_iff_eq.mpr h;simp only[List.lookup,hb,if_pos (h.trans hk)]
    ·have hb:(g == k)=false:=beq_eq_false_iff_ne.mpr h;simp only[List.lookup,hb,if_neg (λe:g=f=>h (e.trans hk.symm))]
   ·rw[if_neg hk]
    by_cases h:g=k
    ·have hb:(g == k)=true:=beq_iff_eq.mpr h;simp only[List.lookup,hb,if_neg (λe:g=f=>hk (h.symm.trans e))]
    ·have hb:(g == k)=false:=beq_eq_false_iff_ne.mpr h;simp only[List.lookup,hb];exact ih
theorem JV (f:Str)(v:V):∀ fs:List (Str×V),f∈(ZA f v fs).map (·.1)∧∀ g,g∈fs.map (·.1)→g∈(ZA f v fs).map (·.1)
 | []=>⟨by simp[ZA],λg h=>by simp at h⟩
 | (k,x)::r=>by
   obtain⟨i1,i2⟩:=JV f v r;rw[show ZA f v ((k,x)::r)=(if k=f then (k,v)::r else (k,x)::ZA f v r) from rfl]
   by_cases hk:k=f
   ·rw[if_pos hk];subst hk;exact⟨by simp,λg h=>by simpa using h⟩
   ·rw[if_neg hk];refine⟨?_,λg h=>?_⟩
    ·rw[List.map_cons];exact List.mem_cons_of_mem _ i1
    ·rw[List.map_cons] at h ⊢
     rcases List.mem_cons.mp h with e|e
     ·exact List.mem_cons.mpr (.inl e)
     ·exact List.mem_cons_of_mem _ (i2 g e)
theorem Z0u (f:Str)(v:V):∀ fs:List (Str×V),(ZA f v fs).length≤fs.length + 1
 | []=>by simp[ZA]
 | (k,x)::r=>by
   have ih:=Z0u f v r;rw[show ZA f v ((k,x)::r)=(if k=f then (k,v)::r else (k,x)::ZA f v r) from rfl]
   by_cases hk:k=f
   ·rw[if_pos hk,List.length_cons,List.length_cons];omega
   ·rw[if_neg hk,List.length_cons,List.length_cons];omega
theorem RelO.some_of {v:V}{o:Option Value}(r:RelO (some v) o):∃ u,o=some u∧RelV v u:=by
 cases o with
 | none=>exact (show False from r).elim
 | some u=>exact⟨u,rfl,r⟩
theorem RelO.none_of {o:Option Value}(r:RelO none o):o=none:=by
 cases o with
 | none=>rfl
 | some u=>exact (show False from r).elim
theorem Z51 {v:V}{u:Value}(r:RelV v u):W.handedIn u=true:=by
 cases v with
 | non=>cases (show u=Value.none from r);rfl
 | bl b=>cases (show u=Value.bool b from r);rfl
 | int i=>obtain⟨t,e⟩:=(show ∃ t,u=Value.int i t from r);cases e;rfl
 | str x=>obtain⟨t,e⟩:=(show ∃ t,u=Value.str x t from r);cases e;rfl
 | byt b=>obtain⟨t,e⟩:=(show ∃ t,u=Value.bytes b t from r);cases e;rfl
 | flt b=>obtain⟨t,e⟩:=(show ∃ t,u=Value.float b t from r);cases e;rfl
 | ref a=>cases (show u=Value.ref a from r);rfl
 | ty n=>cases (show u=Value.type n from r);rfl
section
variable {P:Program}{w:World}{H H':Hp}{h h':Heap}{a C dx:Addr}{fs fs':List (Str×V)}
theorem Z1l (hok:HOk P w H h)(e:H a=some (.ins C dx fs)):∃ mA,ObjM h a dx C mA∧(∀ f,RelO (fs.lookup f) (mA f))∧PySem.Within mA (fs.map (·.1))∧fs.length≤1000∧H dx=some (.own a):=by
 obtain⟨d,z,ne,ob,mA,n,r,q⟩:=(show ObjOk P w H h a (.ins C dx fs) from hok a _ e);exact⟨mA,⟨ob,n,ne⟩,r,q,z,d⟩
end
structure Cls (K:W.Frag)(C:Addr):Prop where
 pg:W.plainGet K C Str.empty=true
 hd:W.hasDictIn K C=true
 po:W.plainOver K C=true
 sa:W.findIn K (.ref C) "__setattr__" = some (some (.builtin "object.__setattr__"))
theorem Cls.get {K:W.Frag}{C:Addr}(c:Cls K C)(f:Str):W.plainGet K C f=true:=c.pg
noncomputable def NoAttr (K:W.Frag)(C:Addr)(f:Str):Prop:=W.findIn K (.ref C) f=some none
theorem NoAttr.taker {K:W.Frag}{C:Addr}{f:Str}(n:NoAttr K C f):W.takerIn K C f=some none:=by
 unfold W.takerIn;rw[show W.findIn K (.ref C) f=some none from n];rfl
structure Meth (K:W.Frag)(C:Addr)(m:Str)(f:Addr):Prop where
 at_:W.findIn K (.ref C) m=some (some (.ref f))
 fn:W.isFn K (.ref f)=true
 kp:W.keepIn K (.ref f)=true
section
variable {X:Cx}{pins:List (Addr×Obj)}{σ:St}{H:Hp}{s:Shared}{a C dx:Addr}{fs:List (Str×V)}{f:Str}{v:V}{A:Around}{E:Value→Shared→Prop}
theorem Z4a {b:Bool}{Q:Value→Shared→Prop}(I:Inv X pins σ H s)(e:H a=some (.ins C dx fs))(c:Cls X.K C)(n:NoAttr X.K C f)(l:fs.lookup f=some v)
 (h:∀ u s',Inv X pins σ H s'→RelV v u→Q u s'):wpAny (model X.prog X.w) A (getAttr (.ref a) f b) Q E s:=by
 obtain⟨mA,O,r,_,_,_⟩:=Z1l I.hok e;obtain⟨u,hu,ru⟩:=RelO.some_of (v:=v) (o:=mA f) (by rw[←l];exact r f);exact Z7i I.kIn O (c.get f) c.hd n hu (Z51 ru) (h u _ (I.tok _) ru)
theorem JH {m:Str}{g:Addr}{pl:Sem Bool}{Q:Value×List Value→Shared→Prop}(I:Inv X pins σ H s)(e:H a=some (.ins C dx fs))(c:Cls X.K C)(k:Meth X.K C m g)(l:fs.lookup m=none)
 (h:Q (.ref g,[.ref a]) s):wpAny (model X.prog X.w) A (getMethod (.ref a) m pl) Q E s:=by
 obtain⟨mA,O,r,_,_,_⟩:=Z1l I.hok e;have hn:mA m=none:=RelO.none_of (by rw[←l];exact r m);exact Z5x I.kIn O (c.get m) k.at_ k.fn hn h
theorem Z48 {y:V}{u:Value}{Q:Unit→Shared→Prop}(I:Inv X pins σ H s)(e:H a=some (.ins C dx fs))(c:Cls X.K C)(n:NoAttr X.K C f)(hl:fs.length < 1000)(ry:RelV y u)
 (h:∀ s',Inv X pins σ (upd H a (.ins C dx (ZA f y fs))) s'→Q () s'):wpAny (model X.prog X.w) A (setAttr (.ref a) f u) Q E s:=by
 obtain⟨mA,O,r,wi,_,ho⟩:=Z1l I.hok e;have hz:(fs.map (·.1)).length≤sizeLine:=by rw[List.length_map,sizeLine_eq];omega
 refine Z75 I.kIn O c.sa c.po n.taker c.hd wi hz λh' O' sb=>h _ ?_;have hd:∃ o,h'.get? dx=some o:=let ⟨o,_,_,e',_⟩:=O'.ns;⟨o,e'⟩
 refine I.write (x:=a) (e:=dx) (by rw[e];exact True.intro) (.inr ho) (λb q hb z=>(sb.2 b hb).trans z) hd ?_;refine⟨by rw[Z2 O.ne];exact ho,?_,O.ne,O'.obj,_,O'.ns,λg=>?_,λg hg=>?_⟩
 ·have:=Z0u f y fs;omega
 ·show RelO ((ZA f y fs).lookup g) (if g=f then some u else mA g);rw[Z0v]
  by_cases q:g=f
  ·rw[if_pos q,if_pos q];exact ry
  ·rw[if_neg q,if_neg q];exact r g
 ·by_cases q:g=f
  ·rw[q];exact (JV f y fs).1
  ·refine (JV f y fs).2 g (wi g λz=>hg ?_);show (if g=f then some u else mA g)=none;rw[if_neg q];exact z
theorem Inv.made (I:Inv X pins σ H s):Inv X pins σ (upd (upd H s.heap.objs.size (.own (s.heap.objs.size + 1))) (s.heap.objs.size + 1) (.ins C s.heap.objs.size []))
 { s with heap:=(s.heap.push W.emptyDict).push (W.instObj C s.heap.objs.size) }:=by
 have e1:(s.heap.push W.emptyDict).get? s.heap.objs.size=some W.emptyDict:=Heap.get?_push_size s.heap rfl;have e2:((s.heap.push W.emptyDict).push (W.instObj C s.heap.objs.size)).get? (s.heap.objs.size + 1)=some (W.instObj C s.heap.objs.size):=by
  have:=Heap.get?_push_size (s.heap.push W.emptyDict) (o:=W.instObj C s.heap.objs.size) rfl
  rwa [Heap.size_push] at this
 have e3:(s.heap.push W.emptyDict).Ns s.heap.objs.size (λ_=>none):=⟨W.emptyDict,#[],_,e1,rfl,(λe he=>absurd he (by simp)),λ_=>rfl⟩;have I1:=I.laid (a:=s.heap.objs.size) (o:=.own (s.heap.objs.size + 1)) (h':=s.heap.push W.emptyDict) (t':=s.toks) (λb u q=>Heap.get?_push_of_some _ q) (Nat.le_refl _) ⟨_,e1⟩;refine I1.laid (a:=s.heap.objs.size + 1) (o:=.ins C s.heap.objs.size []) (t':=s.toks) (λb u q=>Heap.get?_push_of_some _ q) (Nat.le_of_eq (Heap.size_push _ _)) ?_;have ne:s.heap.objs.size≠s.heap.objs.size + 1:=Nat.ne_of_lt (Nat.lt_succ_self _);refine⟨by rw[Z2 ne,Z1],Nat.zero_le _,ne,e2,λ_=>none,(Heap.Ns1.of_empty e3).at λo q=>Heap.get?_push_of_some _ q,λ_=>True.intro,λy hy=>absurd rfl hy⟩
theorem Z7p {prog:Program}{w:World}{env:Env}{e:Expr}{f:Str}{pos:Pos}{s:Shared}{Q:Value→Shared→Prop}(hb:attributeBase e f env (eval e env)=eval e env)
 (h:wpAny (model prog w) A (eval e env) (λo s₁=>wpAny (model prog w) A (getAttr o f true) Q E s₁) E s):wpAny (model prog w) A (eval (.Attribute e f pos) env) Q E s:=
 Attribute_any_ h (by rw[arm_eval_Attribute,hb])
end
noncomputable def Z5p (K:W.Frag)(ta:TE)(f:Str):TE:=λσ H Q=>ta σ H λx H1=>∃ a C dx fs v,x=.ref a∧H1 a=some (.ins C dx fs)∧Cls K C∧NoAttr K C f∧fs.lookup f=some v∧Q v H1
noncomputable def Z8q (K:W.Frag)(ta tv:TE)(f:Str):TS:=λD σ H=>tv σ H λy H1=>ta σ H1 λx H2=>∃ a C dx fs,x=.ref a∧H2 a=some (.ins C dx fs)∧Cls K C∧NoAttr K C f∧fs.length < 1000∧
 D.nx σ (upd H2 a (.ins C dx (ZA f y fs)))
section
variable {X:Cx}{o e value:Expr}{f:Str}{pos pos' tpos:Pos}{ta tv:TE}
theorem Ze (he:PE X e ta)(hb:attributeBase e f X.env (eval e X.env)=eval e X.env):PE X (.Attribute e f pos) (Z5p X.K ta f):=by
 intro pins s σ H Q I h;refine Z7p hb (thn (he pins s σ H _ I h) λu s1 zq=>?_);obtain⟨x,H1,I1,rx,a,C,dx,fs,v,ex,ea,c,n,l,q⟩:=zq;subst ex;obtain rfl:u=Value.ref a:=rx;exact Z4a I1 ea c n l λu' s2 I2 ru=>⟨v,H1,I2,ru,q⟩
theorem Y0 (ha:PE X o ta)(hv:PE X value tv)(hs:swapsWith value (some (.Attribute o f pos')) pos.line X.env=pure false):PS X (.Assign [.Attribute o f pos'] value pos) (Z8q X.K ta tv f):=by
 intro pins s σ H D I h;refine plainObj_wpAny_Assign_Attribute (thn (hv pins s σ H _ I h) λu s1 ⟨y,H1,I1,ry,q⟩=>thn (ha pins s1 σ H1 _ I1 q) λov s2 zq=>?_) hs;obtain⟨x,H2,I2,rx,a,C,dx,fs,ex,ea,c,n,l,q2⟩:=zq;subst ex;obtain rfl:ov=Value.ref a:=rx;exact Z48 I2 ea c n l ry λs3 I3=>⟨σ,_,I3,q2⟩
end
section
variable {X:Cx}{pins:List (Addr×Obj)}{σ:St}{H:Hp}{s:Shared}{A:Around}{E:Value→Shared→Prop}{Q:Value→Shared→Prop}{c:Value}{b:Bool}
end
structure Room (k:Nat)(A:Around):Prop where
 hd:A.handled=none
 dp:A.depth + 3 * k + 5 < recursionLimit
 un:A.units + 16 * k + 200 < cLine
theorem Room.mono {j k:Nat}{A:Around}(r:Room k A)(h:j≤k):Room j A:=⟨r.hd,by have:=r.dp;omega,by have:=r.un;omega⟩
theorem Room.deeper {k:Nat}{A:Around}(r:Room (k + 1) A)(env:Env):Room k (A.deeper env):=
 ⟨r.hd,by have:=r.dp;show A.depth + 1 + 3 * k + 5 < _;omega,by have:=r.un;show A.units + 3 + 16 * k + 200 < _;omega⟩
theorem Room.in1 {k:Nat}{A:Around}(r:Room (k + 1) A):Room k A.in1:=
 ⟨r.hd,by have:=r.dp;show A.depth + 3 * k + 5 < _;omega,by have:=r.un;show A.units + 1 + 16 * k + 200 < _;omega⟩
theorem Z3Y {A:Around}{C:Addr}{us:List Value}{kw:List (Str×Value)}:(A.under (.builtin "type.__call__" ⟨.ref C::us,kw⟩)).depth=A.depth + 1:=by
 first|rfl|simp[Around.under,Code.weight,Code.isCreation,Code.isGuard,Code.isCaller,Code.frames,Code.isFrame,guardIds]
theorem Z3K {A:Around}{C:Addr}{us:List Value}{kw:List (Str×Value)}:(A.under (.builtin "type.__call__" ⟨.ref C::us,kw⟩)).units=A.units + 1:=by
 first|rfl|simp[Around.under,Code.cUnits,Code.frames,Code.isFrame]
theorem Room.make {k:Nat}{A:Around}(r:Room (k + 1) A)(C:Addr)(us:List Value)(kw:List (Str×Value)):Room k (A.under (.builtin "type.__call__" ⟨.ref C::us,kw⟩)):=
 ⟨r.hd,by have:=r.dp;rw[Z3Y];omega,by have:=r.un;rw[Z3K];omega⟩
theorem Room.depth {k:Nat}{A:Around}(r:Room k A):A.depth < recursionLimit:=by have:=r.dp;omega
noncomputable def Z0b:TA:=λ_ H Q=>Q [] H
noncomputable def Jp (ta:TE)(tr:TA):TA:=λσ H Q=>ta σ H λx H1=>tr σ H1 λxs H2=>Q (x::xs) H2
section
variable {X:Cx}{e:Expr}{es:List Expr}{te:TE}{t:TA}{pos:Pos}
theorem Z4:PA X [] Z0b:=λ_ _ _ _ H Q I h=>Calls.spliced_nil ⟨[],H,I,.nil,h⟩
theorem Z0 (ha:PE X e te)(hr:PA X es t)(hs:starEach (e::es) X.env=(false,eval e X.env)::starEach es X.env:=by rfl):PA X (e::es) (Jp te t):=by
 intro pos pins s σ H Q I h;rw[hs];show wpAny _ _ (spliced ((false,eval e X.env)::backTo pos (starEach es X.env))) _ _ s;refine Calls.spliced_cons (thn (ha pins s σ H _ I h) λu s1 zq=>?_);obtain⟨x,H1,I1,r1,q1⟩:=zq;exact thn (hr pos pins s1 σ H1 _ I1 q1) λus s2 ⟨xs,H2,I2,r2,q2⟩=>⟨x::xs,H2,I2,.cons r1 r2,q2⟩
noncomputable def Z7C (t:TA):TE:=λσ H Q=>t σ H λxs H1=>xs.length≤sizeLine∧∀ p,H1 p=none→Q (.ref p) (upd H1 p (.tup xs))
noncomputable def Z4i (t:TA):TE:=λσ H Q=>t σ H λxs H1=>xs.length≤sizeLine∧∀ p,H1 p=none→Q (.ref p) (upd H1 p (.lst xs))
theorem ZF {x1}(h:PA X es t):PE X (.Tuple es x1 pos) (Z7C t):=by
 intro pins s σ H Q I hq;refine wpAny_Tuple_spliced (thn (h pos pins s σ H _ I hq) λus s1 ⟨xs,H1,I1,r,z,q⟩=>⟨by rw[←r.length];exact z,?_⟩);have hf:H1 s1.heap.objs.size=none:=I1.hok.fresh (Nat.le_refl _);refine⟨.ref s1.heap.objs.size,upd H1 s1.heap.objs.size (.tup xs),I1.laid (t':=s1.toks) (λb u e=>Heap.get?_push_of_some _ e) (Nat.le_refl _) ?_,rfl,q _ hf⟩;exact⟨z,us,r,⟨_,Heap.get?_push_size _ rfl,rfl,_,rfl⟩⟩
theorem ZL (h:PA X es t):PE X (.List es pos) (Z4i t):=by
 intro pins s σ H Q I hq;refine wpAny_List_spliced (thn (h pos pins s σ H _ I hq) λus s1 ⟨xs,H1,I1,r,z,q⟩=>⟨by rw[←r.length];exact z,?_⟩);have hf:H1 s1.heap.objs.size=none:=I1.hok.fresh (Nat.le_refl _);refine⟨.ref s1.heap.objs.size,upd H1 s1.heap.objs.size (.lst xs),I1.laid (t':=s1.toks) (λb u e=>Heap.get?_push_of_some _ e) (Nat.le_refl _) ?_,rfl,q _ hf⟩;exact⟨z,us,0,r,Heap.get?_push_size _ rfl⟩
end
noncomputable abbrev Sp:=List V→Hp→VK→XK→Prop
noncomputable abbrev CXT:=List Env→Hp→Shared→XK→Value→Shared→Prop
structure Env0 (P:Program)(w:World)(K:W.Frag)(mg:Str→Option Value)(base:Heap)(A:Around)(outer:List Env)(s:Shared)(H:Hp):Prop where
 frames:A.frames=some outer
 mod:Mod K mg base
 bs:∀ b o,base.get? b=some o→s.heap.get? b=some o∧H b=none
 bsz:base.objs.size≤s.heap.objs.size
 funs:s.heap.FunFrames base outer
 frf:∀ b∈frs outer,H b=none
 hok:HOk P w H s.heap
 bare:AllBare s.gens
noncomputable def CE (outer:List Env)(P:Program)(w:World)(H:Hp)(s:Shared)(Q:VK)(u:Value)(s':Shared):Prop:=
 ∃ v H',s'.os=s.os∧AllBare s'.gens∧Un (frs outer) [] H H' s.heap s'.heap∧HOk P w H' s'.heap∧RelV v u∧Q v H'
noncomputable def CR (CX:CXT)(outer:List Env)(P:Program)(w:World)(H:Hp)(s:Shared)(Q:VK)(E:XK)(r:Result)(s':Shared):Prop:=
 match r with
 | .ok (.ret u)=>CE outer P w H s Q u s'
 | .ok _=>False
 | .error e=>CX outer H s E e s'
structure FnOk (P:Program)(w:World)(K:W.Frag)(mg:Str→Option Value)(base:Heap)(CX:CXT)(k:Nat)(f:Addr)(fd:FuncData)(ps:List Str)(sp:Sp):Prop where
 len:∀ vs H Q E,sp vs H Q E→vs.length=ps.length
 run:∀ (A:Around) (outer:List Env) (s:Shared) (H:Hp) (args:Args) (us:List Value) (vs:List V) (Q:VK) (E:XK),Room k A→Env0 P w K mg base A outer s H→BindsTo s fd args (ps.zip us)→Vals vs us→sp vs H Q E→
  codeAny (model P w) A (.call (.ref f) args) (CR CX outer P w H s Q E) s
theorem Env0.make {P:Program}{w:World}{K:W.Frag}{mg:Str→Option Value}{base:Heap}{A:Around}{outer:List Env}{s:Shared}{H:Hp}(e:Env0 P w K mg base A outer s H)(C:Addr)(us:List Value)(kw:List (Str×Value)) :
 Env0 P w K mg base (A.under (.builtin "type.__call__" ⟨.ref C::us,kw⟩)) outer s H:=⟨by first|exact e.frames|(simpa [Around.under,Code.envs,Code.isFrame,pushEnvs] using e.frames),e.mod,e.bs,e.bsz,e.funs,e.frf,e.hok,e.bare⟩
theorem Env0.in1 {P:Program}{w:World}{K:W.Frag}{mg:Str→Option Value}{base:Heap}{A:Around}{outer:List Env}{s:Shared}{H:Hp}(e:Env0 P w K mg base A outer s H) :
 Env0 P w K mg base A.in1 outer s H:=⟨e.frames,e.mod,e.bs,e.bsz,e.funs,e.frf,e.hok,e.bare⟩
section
variable {X:Cx}{pins:List (Addr×Obj)}{σ:St}{H:Hp}{s s':Shared}
theorem Inv.env0 (I:Inv X pins σ H s):Env0 X.prog X.w X.K X.mg X.base X.A X.stack s H:=
 ⟨I.ok.frames,I.ok.mod,I.bs,Nat.le_trans I.ok.bsz I.sz,I.stack,I.stkFree,I.hok,I.bare⟩
theorem Inv.after {Q:VK}{u:Value}(I:Inv X pins σ H s)(h:CE X.stack X.prog X.w H s Q u s'):EP X pins σ Q u s':=by
 obtain⟨v,H',os,bare,un,hok,r,q⟩:=h;obtain⟨hh,g,d,t,os'⟩:=s';obtain rfl:os'=s.os:=os;exact⟨v,H',I.call (h':=hh) (g':=g) (d':=d) (t':=t) (ch:=[]) un hok bare (λb z=>absurd z (by simp)),r,q⟩
end
noncomputable def Z1Z (sp:Sp)(dvs:List V)(E:XK)(t:TA):TE:=λσ H Q=>t σ H λvs H1=>sp (vs++dvs) H1 Q E
noncomputable def Z4c (C:Addr)(m:Str)(sp:Sp)(dvs:List V)(E:XK)(ta:TE)(t:TA):TE:=λσ H Q=>ta σ H λx H1=>∃ a dx fs,x=.ref a∧H1 a=some (.ins C dx fs)∧fs.lookup m=none∧
 t σ H1 λvs H2=>sp (x::(vs++dvs)) H2 Q E
noncomputable def Z3E (C:Addr)(sp:Sp)(dvs:List V)(E:XK)(t:TA):TE:=λσ H Q=>t σ H λvs H1=>∀ x dx,H1 x=none→H1 dx=none→dx≠x→
 sp (.ref x::(vs++dvs)) (upd (upd H1 dx (.own x)) x (.ins C dx [])) (λv H2=>v=.non∧Q (.ref x) H2) E
noncomputable def Binds (K:W.Frag)(fd:FuncData)(ps:List Str)(ds:List Value):Prop:=
 ∀ (s:Shared) (us:List Value),K.In s.heap→(us++ds).length=ps.length→BindsTo s fd ⟨us,[]⟩ (ps.zip (us++ds))
theorem Binds.all {K:W.Frag}{fd:FuncData}{ps:List Str}(h:∀ us:List Value,us.length=ps.length→bindArgs fd ⟨us,[]⟩=pure (ps.zip us)):Binds K fd ps []:=λs us _ hl=>by
 rw[List.append_nil] at hl ⊢;exact .of_eq (h us hl)
noncomputable def X1 (CX:CXT)(X:Cx)(E:XK):Prop:=∀ (pins:List (Addr×Obj)) (σ:St) (H:Hp) (s:Shared) (e:Value) (s':Shared),Inv X pins σ H s→CX X.stack H s E e s'→X.xe e s'
section
variable {X:Cx}{CX:CXT}{k:Nat}{f C:Addr}{fd:FuncData}{ps:List Str}{sp:Sp}{dvs:List V}{ds:List Value}{E:XK}{x m:Str}{p pos apos:Pos}{e o:Expr}{es:List Expr}{ta:TE}{t:TA}
theorem JY {pins:List (Addr×Obj)}{σ:St}{H:Hp}{s:Shared}{Q:VK}{us:List Value}{vs:List V}(F:FnOk X.prog X.w X.K X.mg X.base CX k f fd ps sp)(hr:Room k X.A)(hb:Binds X.K fd ps ds)(hd:Vals dvs ds)(hx:X1 CX X E)
 (I:Inv X pins σ H s) (r:Vals vs us) (h:sp (vs++dvs) H Q E):wpAny (model X.prog X.w) X.A (call (.ref f) us) (EP X pins σ Q) X.xe s:=by
 have r2:Vals (vs++dvs) (us++ds):=r.append hd;have hl:(us++ds).length=ps.length:=by rw[←r2.length];exact F.len _ _ _ _ h
 refine wpAny_call (codeAny_mono (F.run X.A X.stack s H ⟨us,[]⟩ (us++ds) (vs++dvs) Q E hr I.env0 (hb s us I.kIn hl) r2 h) λr s' hq=>?_);cases r with
 | error e=>exact hx pins σ H s e s' I hq
 | ok fl=>
   cases fl with
   | ret u=>exact I.after hq
   | next=>exact False.elim hq
   | brk=>exact False.elim hq
   | cont=>exact False.elim hq
theorem Zc (F:FnOk X.prog X.w X.K X.mg X.base CX k f fd ps sp)(hr:Room k X.A)(hg:Gl X x)(hm:X.mg x=some (.ref f))(hk:W.keepIn X.K (.ref f)=true)(hb:Binds X.K fd ps ds)(hd:Vals dvs ds)(hx:X1 CX X E)
 (ha:PA X (e::es) t) (hdb:(x == ("__debug__" : Str))=false:=by decide) (he:starEach (e::es) X.env=(false,eval e X.env)::starEach es X.env:=by rfl) (hpl:(backTo pos (starEach es X.env)).any (·.1)=false:=by rfl) :
 PE X (.Call (.Name x p) (e::es) [] pos) (Z1Z sp dvs E t):=by
 intro pins s σ H Q I h;refine wpAny_Call_Name_kw (YR I hg hm ?_ hdb);refine W.callWith_K (h₀:=X.base) I.ok.mod.kin hk (thn (ha pos pins s σ H _ I h) λus s1 ⟨vs,H1,I1,r,q⟩=>⟨I1.kIn,?_⟩) he hpl;exact JY F hr hb hd hx I1 r q
theorem Z6a (F:FnOk X.prog X.w X.K X.mg X.base CX k f fd ps sp)(hr:Room k X.A)(hg:Gl X x)(hm:X.mg x=some (.ref f))(hk:W.keepIn X.K (.ref f)=true)(hb:Binds X.K fd ps ds)(hd:Vals dvs ds)(hx:X1 CX X E)
 (hdb:(x == ("__debug__" : Str))=false:=by decide):PE X (.Call (.Name x p) [] [] pos) (Z1Z sp dvs E Z0b):=by
 intro pins s σ H Q I h;refine wpAny_Call_Name_kw (YR I hg hm ?_ hdb);exact W.callWith_K0 I.kIn hk (JY (us:=[]) F hr hb hd hx I .nil h)
theorem Y6 {pl:Sem Bool}(he:PE X o ta)(c:Cls X.K C)(hm:Meth X.K C m f)(F:FnOk X.prog X.w X.K X.mg X.base CX k f fd ps sp)(hr:Room k X.A)(hb:Binds X.K fd ps ds)(hd:Vals dvs ds)(hx:X1 CX X E)(ha:PA X (e::es) t)
 (hst:starEach (e::es) X.env=(false,eval e X.env)::starEach es X.env:=by rfl) (hpl:(backTo pos (starEach es X.env)).any (·.1)=false:=by rfl)
 (ht:eval (.Call (.Attribute o m apos) (e::es) [] pos) X.env=(do
   let ov←eval o X.env
   standAt apos.atName
   let (f,first)←holding [ov] (getMethod ov m pl)
   callWith pos f first (backTo pos (starEach (e::es) X.env)) (backToKw pos (keywordEach [] X.env))):=by rfl) :
 PE X (.Call (.Attribute o m apos) (e::es) [] pos) (Z4c C m sp dvs E ta t):=by
 intro pins s σ H Q I h;refine W.methodCall_KW (pl:=pl) (thn (he pins s σ H _ I h) λu s1 zq=>?_) ht;obtain⟨x,H1,I1,rx,a,dx,fs,ex,ea,l,q⟩:=zq;subst ex;obtain rfl:u=Value.ref a:=rx;refine JH I1 ea c hm l ?_;refine W.callWith_K (first:=[.ref a]) (h₀:=X.base) I.ok.mod.kin hm.kp (thn (ha pos pins s1 σ H1 _ I1 q) λus s2 ⟨vs,H2,I2,r,q2⟩=>⟨I2.kIn,?_⟩) hst hpl;exact JY (us:=.ref a::us) (vs:=.ref a::vs) F hr hb hd hx I2 (.cons rfl r) q2
theorem Xd {pl:Sem Bool}(he:PE X o ta)(c:Cls X.K C)(hm:Meth X.K C m f)(F:FnOk X.prog X.w X.K X.mg X.base CX k f fd ps sp)(hr:Room k X.A)(hb:Binds X.K fd ps ds)(hd:Vals dvs ds)(hx:X1 CX X E)
 (ht:eval (.Call (.Attribute o m apos) [] [] pos) X.env=(do
   let ov←eval o X.env
   standAt apos.atName
   let (f,first)←holding [ov] (getMethod ov m pl)
   callWith pos f first (backTo pos (starEach [] X.env)) (backToKw pos (keywordEach [] X.env))):=by rfl) :
 PE X (.Call (.Attribute o m apos) [] [] pos) (Z4c C m sp dvs E ta Z0b):=by
 intro pins s σ H Q I h;refine W.methodCall_KW (pl:=pl) (thn (he pins s σ H _ I h) λu s1 zq=>?_) ht;obtain⟨x,H1,I1,rx,a,dx,fs,ex,ea,l,q⟩:=zq;subst ex;obtain rfl:u=Value.ref a:=rx;refine JH I1 ea c hm l ?_;exact W.callWith_K0 (first:=[.ref a]) I1.kIn hm.kp (JY (us:=[.ref a]) (vs:=[.ref a]) F hr hb hd hx I1 (.cons rfl .nil) q)
structure Mk (K:W.Frag)(C f:Addr):Prop where
 makes:W.makesIn K C=true
 init:W.findIn K (.ref C) "__init__" = some (some (.ref f))
 fn:W.isFn K (.ref f)=true
 kp:W.keepIn K (.ref C)=true
theorem Z2I {pins:List (Addr×Obj)}{σ:St}{H:Hp}{s:Shared}{Q:VK}{us:List Value}{vs:List V}(M:Mk X.K C f)(F:FnOk X.prog X.w X.K X.mg X.base CX k f fd ps sp)(hr:Room (k + 1) X.A)(hb:Binds X.K fd ps ds)(hd:Vals dvs ds)
 (hx:X1 CX X E) (I:Inv X pins σ H s) (r:Vals vs us)
 (h:∀ x dx,H x=none→H dx=none→dx≠x→sp (.ref x::(vs++dvs)) (upd (upd H dx (.own x)) x (.ins C dx [])) (λv H2=>v=.non∧Q (.ref x) H2) E) :
 wpAny (model X.prog X.w) X.A (call (.ref C) us) (EP X pins σ Q) X.xe s:=by
 have hq:=h (s.heap.objs.size + 1) s.heap.objs.size (I.hok.fresh (Nat.le_succ _)) (I.hok.fresh (Nat.le_refl _)) (Nat.ne_of_lt (Nat.lt_succ_self _));have I2:=Inv.made (C:=C) I;have r2:Vals (V.ref (s.heap.objs.size + 1)::(vs++dvs)) (Value.ref (s.heap.objs.size + 1)::(us++ds)):=.cons rfl (r.append hd);have hl:(Value.ref (s.heap.objs.size + 1)::us++ds).length=ps.length:=by
  have e:=r2.length;rw[F.len _ _ _ _ hq] at e;exact e.symm
 refine wpAny_call (Z6h (f:=f) I.kIn M.makes M.init (beq_iff_eq.mp M.fn) (codeAny_mono (F.run _ X.stack _ _ ⟨Value.ref (s.heap.objs.size + 1)::us,[]⟩ (Value.ref (s.heap.objs.size + 1)::(us++ds)) _ _ E (hr.make C us [])
  (I2.env0.make C us []) (hb _ (Value.ref (s.heap.objs.size + 1)::us) I2.kIn hl) r2 hq) λr s' hq'=>?_))
 cases r with
 | error e=>exact hx pins σ _ _ e s' I2 hq'
 | ok fl=>
   cases fl with
   | ret u=>
     obtain⟨v,H',I3,rv,ev,q3⟩:=I2.after hq';subst ev;exact⟨rv,⟨V.ref (s.heap.objs.size + 1),H',I3,rfl,q3⟩⟩
   | next=>exact False.elim hq'
   | brk=>exact False.elim hq'
   | cont=>exact False.elim hq'
theorem XY (M:Mk X.K C f)(F:FnOk X.prog X.w X.K X.mg X.base CX k f fd ps sp)(hr:Room (k + 1) X.A)(hg:Gl X x)(hm:X.mg x=some (.ref C))(hb:Binds X.K fd ps ds)(hd:Vals dvs ds)(hx:X1 CX X E)
 (ha:PA X (e::es) t) (hdb:(x == ("__debug__" : Str))=false:=by decide) (he:starEach (e::es) X.env=(false,eval e X.env)::starEach es X.env:=by rfl) (hpl:(backTo pos (starEach es X.env)).any (·.1)=false:=by rfl) :
 PE X (.Call (.Name x p) (e::es) [] pos) (Z3E C sp dvs E t):=by
 intro pins s σ H Q I h;refine wpAny_Call_Name_kw (YR I hg hm ?_ hdb);refine W.callWith_K (h₀:=X.base) I.ok.mod.kin M.kp (thn (ha pos pins s σ H _ I h) λus s1 ⟨vs,H1,I1,r,q⟩=>⟨I1.kIn,?_⟩) he hpl;exact Z2I M F hr hb hd hx I1 r q
theorem Z5U (M:Mk X.K C f)(F:FnOk X.prog X.w X.K X.mg X.base CX k f fd ps sp)(hr:Room (k + 1) X.A)(hg:Gl X x)(hm:X.mg x=some (.ref C))(hb:Binds X.K fd ps ds)(hd:Vals dvs ds)(hx:X1 CX X E)
 (hdb:(x == ("__debug__" : Str))=false:=by decide):PE X (.Call (.Name x p) [] [] pos) (Z3E C sp dvs E Z0b):=by
 intro pins s σ H Q I h;refine wpAny_Call_Name_kw (YR I hg hm ?_ hdb);exact W.callWith_K0 I.kIn M.kp (Z2I (us:=[]) M F hr hb hd hx I .nil h)
end
section
variable {X:Cx}{CX:CXT}{k:Nat}{f C:Addr}{fd:FuncData}{ps ks:List Str}{sp:Sp}{E:XK}{x m:Str}{p pos apos kpos:Pos}{e o:Expr}{es:List Expr}{kws:List Keyword}{te ta:TE}{t tk:TA}{nm:Option Str}
variable {g:List Value→List Value→List Value}{gV:List V→List V→List V}
end
structure FnScope (N P:List Str)(sc:Scope):Prop where
 kind:sc.kind=.function
 co:sc.isCoroutine=false
 gen:sc.isGenerator=false
 nd:N.Nodup
 pre:N.take P.length=P
 par:∀ x∈P,sc.names.lookup x=some .local∨sc.names.lookup x=some .cell
 nofree:∀ y∈sc.names,y.2≠.free
theorem Z1M {kindOf:Str→Option NameKind}{x:Str}:∀ {binds:List (Str×Value)}{m:Str→Option Value},(∀ v,(x,v) ∉ binds)→bindL kindOf binds m x=m x
 | [],_,_=>rfl
 | (n,v)::r,m,h=>by
   unfold bindL;rw[Z1M λw hw=>h w (List.mem_cons_of_mem _ hw)]
   split
   ·have:x≠n:=by rintro rfl;exact h v List.mem_cons_self
    simp[this]
   ·rfl
theorem Z1B {kindOf:Str→Option NameKind}{x:Str}:∀ {binds:List (Str×Value)}{m:Str→Option Value},(∀ v,(x,v) ∉ binds)→bindC kindOf binds m x=m x
 | [],_,_=>rfl
 | (n,v)::r,m,h=>by
   unfold bindC;rw[Z1B λw hw=>h w (List.mem_cons_of_mem _ hw)]
   split
   ·rfl
   ·have:x≠n:=by rintro rfl;exact h v List.mem_cons_self
    simp[this]
theorem Z1I {kindOf:Str→Option NameKind}{x:Str}{v:Value}:∀ {P:List Str}{vs:List Value}{i:Nat}{m:Str→Option Value},P.Nodup→P[i]? = some x→vs[i]? = some v→kindOf x=some .local→
 bindL kindOf (P.zip vs) m x=some v
 | [],_,_,_,_,h,_,_=>by simp at h
 | _::_,[],_,_,_,_,h,_=>by simp at h
 | p::P,w::vs,0,m,nd,h1,h2,hk=>by
   simp at h1 h2;subst h1;subst h2;show bindL kindOf ((p,w)::P.zip vs) m p=_;unfold bindL;rw[Z1M λv hv=>(List.nodup_cons.mp nd).1 (List.of_mem_zip hv).1,if_pos hk];simp
 | p::P,w::vs,i + 1,m,nd,h1,h2,hk=>by
   show bindL kindOf ((p,w)::P.zip vs) m x=_;unfold bindL;exact Z1I (i:=i) (List.nodup_cons.mp nd).2 (by simpa using h1) (by simpa using h2) hk
theorem Z1H {kindOf:Str→Option NameKind}{x:Str}{v:Value}:∀ {P:List Str}{vs:List Value}{i:Nat}{m:Str→Option Value},P.Nodup→P[i]? = some x→vs[i]? = some v→kindOf x≠some .local→
 bindC kindOf (P.zip vs) m x=some v
 | [],_,_,_,_,h,_,_=>by simp at h
 | _::_,[],_,_,_,_,h,_=>by simp at h
 | p::P,w::vs,0,m,nd,h1,h2,hk=>by
   simp at h1 h2;subst h1;subst h2;show bindC kindOf ((p,w)::P.zip vs) m p=_;unfold bindC;rw[Z1B λv hv=>(List.nodup_cons.mp nd).1 (List.of_mem_zip hv).1,if_neg hk];simp
 | p::P,w::vs,i + 1,m,nd,h1,h2,hk=>by
   show bindC kindOf ((p,w)::P.zip vs) m x=_;unfold bindC;exact Z1H (i:=i) (List.nodup_cons.mp nd).2 (by simpa using h1) (by simpa using h2) hk
noncomputable def start (N:List Str)(vs:List V):St:=vs.map some++List.replicate (N.length - vs.length) none
noncomputable def Xs (CX:CXT)(P:Program)(w:World)(K:W.Frag)(mg:Str→Option Value)(base:Heap)(N:List Str)(qual:Str)(scope:Scope)(f:Addr)(cd:Value)(A:Around)(outer:List Env)(s:Shared)(H:Hp)(E:XK):Cx where
 prog:=P
 w:=w
 K:=K
 mg:=mg
 base:=base
 A:=A.deeper (envOfC qual scope s.heap.objs.size f cd)
 N:=N
 s₀:=s
 H₀:=H
 env:=envOfC qual scope s.heap.objs.size f cd
 outer:=outer
 stack:=envOfC qual scope s.heap.objs.size f cd::outer
 ex:=[]
 calm:=true
 fn:=λ_=>true
 pn:=[]
 xe:=λe s'=>wpAny (model P w) (A.deeper (envOfC qual scope s.heap.objs.size f cd)) (leaving (envOfC qual scope s.heap.objs.size f cd) e) (λ_ s''=>CX outer H s E e s'') (λe' s''=>CX outer H s E e' s'') s'
theorem Z2p {sc:Scope}{n:Nat}{x:Str}(h:sc.names.lookup x=some .cell):∃ c,(cellsFrom n sc.names []).lookup x=some c:=by
 have q:=W.cellsFrom_some sc.names n [] (.inl h);exact Option.isSome_iff_exists.mp q
theorem Z1N {CX:CXT}{P:Program}{w:World}{K:W.Frag}{mg:Str→Option Value}{base:Heap}{N ps:List Str}{qual:Str}{scope:Scope}{f:Addr}{cd:Value}{A:Around}{outer:List Env}{s s1:Shared}{H:Hp}{E:XK}{us:List Value}{vs:List V}
 (S:FnScope N ps scope) (hd:A.handled=none) (e0:Env0 P w K mg base A outer s H) (hl:vs.length=ps.length) (r:Vals vs us)
 (x:InCallC s s.heap.objs.size (bindL (envOfC qual scope s.heap.objs.size f cd).kindOf (ps.zip us) λ_=>none) (cellsFrom (s.heap.objs.size + 1) scope.names []) (bindC (envOfC qual scope s.heap.objs.size f cd).kindOf (ps.zip us) λ_=>none) s1) :
 Inv (Xs CX P w K mg base N qual scope f cd A outer s H E) [] (start N vs) H s1:=by
 have hpl:ps.length≤N.length:=by have:=congrArg List.length S.pre;rw[List.length_take] at this;omega
 obtain⟨h1,tk,rfl,hk⟩:=x.done;have noA:∀ b:Addr,b ∉ (Xs CX P w K mg base N qual scope f cd A outer s H E).ex:=λb z=>absurd (show b∈([]:List Addr) from z) (by simp);refine⟨⟨e0.mod,S.kind,rfl,rfl,Nat.le_refl _,λy z c h1 h2=>?_,λy hy=>?_,λy c _ h=>?_,λ_=>hd,Around.frames_deeper e0.frames,.inr ⟨rfl,rfl⟩,λb z=>absurd z (noA b),e0.bs,e0.bsz,λb _ _=>noA b,λb z=>absurd z (noA b),e0.funs,e0.frf⟩,
  rfl,e0.bare,Un.kept hk,⟨_,x.toInCall.ns,λi y v h1 h2 h3=>?_⟩,λy c h=>⟨_,x.cell y c h⟩,e0.hok.fresh (Nat.le_refl _),λy c h=>?_,λp hp=>absurd (show p∈([]:List (Addr×Obj)) from hp) (by simp),e0.hok.kept hk,?_⟩
 ·exact name_of_addr x.apart (PySem.mem_of_lookup h1) (PySem.mem_of_lookup h2)
 ·have hy:scope.names.lookup y=some .cell∨scope.names.lookup y=some .free:=hy
  rcases hy with hy|hy
  ·exact Z2p hy
  ·exact absurd rfl (S.nofree _ (PySem.mem_of_lookup hy))
 ·exact Nat.le_of_lt (x.above y c (PySem.mem_of_lookup h))
 ·have hi:i < vs.length:=by
   unfold start at h2
   by_cases hi:i < vs.length
   ·exact hi
   ·rw[List.getElem?_append_right (by simpa using hi)] at h2;rw[List.getElem?_replicate] at h2
    split at h2<;>cases h2
  have ha:vs[i]? = some v:=by
   unfold start at h2;rw[List.getElem?_append_left (by simpa using hi),List.getElem?_map] at h2;cases e:vs[i]? with
   | none=>rw[e] at h2;cases h2
   | some a=>rw[e] at h2;cases h2;rfl
  obtain⟨u,hu,rv⟩:=r.get ha;have hp:ps[i]? = some y:=by
   rw[←S.pre,List.getElem?_take_of_lt (by omega)];exact h1
  have ndP:ps.Nodup:=by rw[←S.pre];exact S.nd.sublist (List.take_sublist _ _)
  refine⟨u,rv,?_⟩
  rcases S.par y (List.mem_of_getElem? hp) with k|k
  ·exact .inl ⟨k,Z1I ndP hp hu k⟩
  ·obtain⟨c,e⟩:=Z2p (n:=s.heap.objs.size + 1) k;refine .inr ⟨.inl k,c,e,?_⟩;have q:=x.cell y c e;rw[Z1H ndP hp hu (by show scope.names.lookup y≠_;rw[k];decide)] at q;exact q
 ·exact e0.hok.fresh (Nat.le_of_lt (x.above y c (PySem.mem_of_lookup h)))
 ·unfold start;show _=N.length;rw[List.length_append,List.length_map,List.length_replicate];omega
theorem Z6B {CX:CXT}{P:Program}{w:World}{K:W.Frag}{mg:Str→Option Value}{base:Heap}{k:Nat}{f:Addr}{name qual:Str}{params:Arguments}{body:List Stmt}{scope:Scope}{dV kV doc pm cdv ct oc:Value}{an od:Option Addr}
 {osl:Array (Option Value)}{N ps:List Str}{sp:Sp} (lk:K.lookup f=some ⟨oc,od,.func (W.fnOf name qual params body scope dV kV doc pm an cdv ct),osl⟩) (hcd:W.codeIn K cdv qual=true) (S:FnScope N ps scope)
 (len:∀ vs H Q E,sp vs H Q E→vs.length=ps.length)
 (hbody:∀ (A:Around) (outer:List Env) (s:Shared) (H:Hp) (vs:List V) (Q:VK) (E:XK),Room k (A.deeper (envOfC qual scope s.heap.objs.size f cdv))→sp vs H Q E→
   ∃ t,PSs (Xs CX P w K mg base N qual scope f cdv A outer s H E) body t∧t { nx:=λ_ H'=>Q .non H',rt:=Q } (start N vs) H) :
 FnOk P w K mg base CX (k + 1) f (W.fnOf name qual params body scope dV kV doc pm an cdv ct) ps sp:=by
 refine⟨len,λA outer s H args us vs Q E hr e0 hb r hsp=>?_⟩;have hl:=len _ _ _ _ hsp;have KX:K.In s.heap:=e0.mod.kin.keeps λb o e=>(e0.bs b o e).1;have lim:s.heap.NoLimit:=e0.mod.nolimit.keeps λb o e=>(e0.bs b o e).1;have hkind:∀ y∈ps.zip us,scope.names.lookup y.1=some .local∨(scope.names.lookup y.1=some .cell∧((cellsFrom (s.heap.objs.size + 1) scope.names []).lookup y.1).isSome=true):=λ⟨n,v⟩ hy=>by
  rcases S.par n (List.of_mem_zip hy).1 with q|q
  ·exact .inl q
  ·exact .inr ⟨q,W.cellsFrom_some _ _ _ (.inl q)⟩
 refine codeAny_call_function hr.depth (KX _ _ lk) rfl S.co S.gen rfl (W.codeRec_of KX hcd) (hb _ _ _ _ ?_);refine wpAny_newFunctionEnv_cells S.kind hkind λenv he s1 x=>?_;subst he;refine⟨lim.keeps x.toInCall.keep,codeAny_func ?_⟩;obtain⟨t,ht,hq⟩:=hbody A outer s H vs Q E (hr.deeper _) hsp;have I:Inv (Xs CX P w K mg base N qual scope f cdv A outer s H E) [] (start N vs) H s1:=Z1N S hr.hd e0 hl r x;refine wpAny_mono (ht [] s1 (start N vs) H _ I hq) (λfl s' hs=>?_) λe s' hs=>hs;have fin:∀ {σ':St}{H':Hp}{v:V}{u:Value},Inv (Xs CX P w K mg base N qual scope f cdv A outer s H E) [] σ' H' s'→RelV v u→Q v H'→CE outer P w H s Q u s':=
  fun {σ' H' v u} J rv q=>⟨v,H',J.os,J.bare,J.base,J.hok,rv,q⟩
 cases fl with
 | ret u=>
   obtain⟨v,σ',H',J,rv,q⟩:=hs;exact fin J rv q
 | next=>
   obtain⟨σ',H',J,q⟩:=hs;exact fin (v:=V.non) (u:=Value.none) J rfl q
 | brk=>
   obtain⟨_,_,_,q⟩:=hs;exact False.elim q
 | cont=>
   obtain⟨_,_,_,q⟩:=hs;exact False.elim q
section
variable {X:Cx}{x:Str}{p pos:Pos}{e:Expr}{es:List Expr}{t:TA}{id T:String}{r:List V→Hp→VK→Prop}
noncomputable def tCB (r:List V→Hp→VK→Prop)(t:TA):TE:=λσ H Q=>t σ H λvs H1=>r vs H1 Q
theorem Zh (hc:YA X (.builtin id) r)(hg:Gl X x)(hm:X.mg x=none)(hv:bootBuiltins x=some (.builtin id))(ha:PA X (e::es) t)(hn:x≠"__name__":=by decide)(hdb:(x == ("__debug__" : Str))=false:=by decide)
 (he:starEach (e::es) X.env=(false,eval e X.env)::starEach es X.env:=by rfl) (hpl:(backTo pos (starEach es X.env)).any (·.1)=false:=by rfl):PE X (.Call (.Name x p) (e::es) [] pos) (tCB r t):=by
 intro pins s σ H Q I h;refine wpAny_Call_Name_kw (Z03 I hg hm hv ?_ hn hdb);exact PyProof.Rows.callWith_builtin1 (thn (ha pos pins s σ H _ I h) λus s1 ⟨vs,H1,I1,r1,q1⟩=>hc pins s1 σ H1 vs us Q I1 r1 q1) he hpl
theorem Z0g (hc:YA X (.type T) r)(hg:Gl X x)(hm:X.mg x=none)(hv:bootBuiltins x=some (.type T))(ha:PA X (e::es) t)(hn:x≠"__name__":=by decide)(hdb:(x == ("__debug__" : Str))=false:=by decide)
 (he:starEach (e::es) X.env=(false,eval e X.env)::starEach es X.env:=by rfl) (hpl:(backTo pos (starEach es X.env)).any (·.1)=false:=by rfl):PE X (.Call (.Name x p) (e::es) [] pos) (tCB r t):=by
 intro pins s σ H Q I h;refine wpAny_Call_Name_kw (Z03 I hg hm hv ?_ hn hdb);exact PyProof.Rows.callWith_type1 (thn (ha pos pins s σ H _ I h) λus s1 ⟨vs,H1,I1,r1,q1⟩=>hc pins s1 σ H1 vs us Q I1 r1 q1) he hpl
end
end L2
namespace HT
open PySem PyProof.Rows
section
open PySem.SeqAt
open PySem.AutoSeq1 (wpAny_loadPart')
open PySem.MeetsSeq PySem.MeetsSeq2 PySem.MeetsSeq3
end
section
variable {prog:Program}{w:World}{A:Around}{E:Value→Shared→Prop}{s:Shared}
end
end HT
namespace L2
open PySem PySem.Spec PyProof.Rows
noncomputable abbrev TO:=St→Hp→(Option Int→Hp→Prop)→Prop
noncomputable def PO (X:Cx)(e:Option Expr)(t:TO):Prop:=
 ∀ (pins:List (Addr×Obj)) (s:Shared) (σ:St) (H:Hp) (Q:Option Int→Hp→Prop),Inv X pins σ H s→t σ H Q→
   wpAny (model X.prog X.w) X.A (evalPart e X.env) (λu s'=>∃ o H',Inv X pins σ H' s'∧IsPart u o∧Q o H') X.xe s
noncomputable def Z3p:TO:=λ_ H Q=>Q none H
noncomputable def Z6G (t:TE):TO:=λσ H Q=>t σ H λx H1=>∃ i,x=.int i∧Q (some i) H1
section
variable {X:Cx}{e:Expr}{te:TE}{lo hi:Option Expr}{tl th:TO}{pos p2:Pos}
theorem Z6U:PO X none Z3p:=by
 intro pins s σ H Q I h;rw[evalPart_none];exact wpAny_pure ⟨none,H,I,.none,h⟩
theorem Z6R (h:PE X e te):PO X (some e) (Z6G te):=by
 intro pins s σ H Q I hw;rw[evalPart_some];refine thn (h pins s σ H _ I hw) λu s1 zq=>?_;obtain⟨x,H1,I1,r1,q1⟩:=zq;obtain⟨i,rfl,q⟩:=q1;obtain⟨t,rfl⟩:=r1;exact⟨some i,H1,I1,.int i t,q⟩
noncomputable def SlR (X:Cx)(r:V→Option Int→Option Int→Hp→VK→Prop):Prop:=
 ∀ (pins:List (Addr×Obj)) (s:Shared) (σ:St) (H:Hp) (x:V) (v vl vu:Value) (lo hi:Option Int) (sl:Addr) (Q:VK),Inv X pins σ H s→RelV x v→s.heap.IsSliceOf sl vl vu .none→IsPart vl lo→IsPart vu hi→r x lo hi H Q→
   ∃ T id,typeLookup (.type T) "__getitem__" = pure (some (.builtin id))∧s.TypeIs v T∧wpAny (model X.prog X.w) X.A (getItem v (.ref sl)) (EP X pins σ Q) X.xe s
noncomputable def tSl (r:V→Option Int→Option Int→Hp→VK→Prop)(te:TE)(tl th:TO):TE:=λσ H Q=>te σ H λx H1=>tl σ H1 λl H2=>th σ H2 λu H3=>r x l u H3 Q
theorem Z5o {r:V→Option Int→Option Int→Hp→VK→Prop}(hr:SlR X r)(he:PE X e te)(hl:PO X lo tl)(hu:PO X hi th):PE X (.Subscript e (.Slice lo hi none p2) pos) (tSl r te tl th):=by
 intro pins s σ H Q I h;refine Subscript_ (thn (he pins s σ H _ I h) λv s1 zq=>?_);obtain⟨x,H1,I1,r1,q1⟩:=zq;refine wpAny_Slice (thn (hl pins s1 σ H1 _ I1 q1) λvl s2 ⟨l,H2,I2,pl,q2⟩=>thn (hu pins s2 σ H2 _ I2 q2) λvu s3 zq=>?_);obtain⟨u,H3,I3,pu,q3⟩:=zq;rw[evalPart_none];refine wpAny_pure ?_;have I4:Inv X pins σ H3 { s3 with heap:=s3.heap.push { cls:=.type "slice",data:=.fields #[vl,vu,.none] } }:=I3.kept (t':=s3.toks) λb ob q=>Heap.get?_push_of_some _ q;obtain⟨T,id,hT,ht,hg⟩:=hr pins { s3 with heap:=s3.heap.push { cls:=.type "slice",data:=.fields #[vl,vu,.none] } } σ H3 x v vl vu l u s3.heap.objs.size Q I4 r1 (Heap.IsSliceOf.new ..) pl pu q3;show wpAny (model X.prog X.w) X.A (subscriptTail e (.Slice lo hi none p2) v (.ref s3.heap.objs.size)) (EP X pins σ Q) X.xe { s3 with heap:=s3.heap.push { cls:=.type "slice",data:=.fields #[vl,vu,.none] } };exact tail_any (ops:=[.ref s3.heap.objs.size,v]) ht hT hg (by with_unfolding_all rfl)
end
noncomputable def ixN (n:Nat)(i:Int):Option Nat:=if 0≤i then (if i < n then some i.toNat else none) else if -(n:Int)≤i then some (i + n).toNat else none
noncomputable def atI {α:Type}(xs:List α)(i:Int):Option α:=(ixN xs.length i).bind λj=>xs[j]?
theorem Z3y {n:Nat}{i:Int}{j:Nat}(h:ixN n i=some j):seqIndex? i n=some j∧j < n∧-(n:Int)≤i∧i < n:=by
 unfold ixN at h
 by_cases h0:0≤i
 ·rw[if_pos h0] at h
  by_cases h1:i < n
  ·rw[if_pos h1] at h;have e:i.toNat=j:=Option.some.inj h;exact⟨by rw[seqIndex_of h0 h1,e],by omega,by omega,h1⟩
  ·rw[if_neg h1] at h;cases h
 ·rw[if_neg h0] at h
  by_cases h1:-(n:Int)≤i
  ·rw[if_pos h1] at h;have e:(i + n).toNat=j:=Option.some.inj h;exact⟨by rw[seqIndex_neg (by omega) h1,e],by omega,h1,by omega⟩
  ·rw[if_neg h1] at h;cases h
theorem Z1q {α:Type}{xs:List α}{i:Int}{v:α}(h:atI xs i=some v):∃ j,seqIndex? i xs.length=some j∧xs[j]? = some v∧j < xs.length∧-(xs.length:Int)≤i∧i < xs.length:=by
 unfold atI at h;cases e:ixN xs.length i with
 | none=>rw[e] at h;cases h
 | some j=>
   rw[e] at h;obtain⟨h1,h2,h3,h4⟩:=Z3y e;exact⟨j,h1,h,h2,h3,h4⟩
theorem ZG {α:Type}{xs:List α}{j:Nat}{v:α}(h:xs[j]? = some v):atI xs (j:Int)=some v:=by
 have hj:j < xs.length:=(List.getElem?_eq_some_iff.mp h).1;have e:ixN xs.length (j:Int)=some j:=by
  unfold ixN;rw[if_pos (by omega),if_pos (by omega)];simp
 unfold atI;rw[e];exact h
noncomputable def Z6S (b:Expr):Prop:=∀ o i,subscripted b false o i=operate [o,i] (getItem o i)
noncomputable def IxR (X:Cx)(r:R2):Prop:=
 ∀ (value slice:Expr) (pins:List (Addr×Obj)) (s:Shared) (σ:St) (H:Hp) (x y:V) (v u:Value) (Q:VK),Inv X pins σ H s→RelV x v→RelV y u→r x y H Q→
   subscripted slice false v u=operate [v,u] (getItem v u)→wpAny (model X.prog X.w) X.A (subscriptTail value slice v u) (EP X pins σ Q) X.xe s
noncomputable def MtR (X:Cx)(id:String)(r:V→List V→Hp→VK→Prop):Prop:=
 ∀ (pins:List (Addr×Obj)) (s:Shared) (σ:St) (H:Hp) (x:V) (xs:List V) (v:Value) (us:List Value) (Q:VK),Inv X pins σ H s→RelV x v→Vals xs us→r x xs H Q→
   wpAny (model X.prog X.w) X.A (call (.builtin id) (v::us)) (EP X pins σ Q) X.xe s
section
variable {X:Cx}{a b:Expr}{ta tb:TE}{pos:Pos}
theorem Zj {r:R2}(hr:IxR X r)(ha:PE X a ta)(hb:PE X b tb)(hs:Z6S b):PE X (.Subscript a b pos) (tOp r ta tb):=by
 intro pins s σ H Q I h;exact Subscript_ (Z5Z ha hb I h λv u s2 x y H2 I2 rx ry q=>hr a b pins s2 σ H2 x y v u Q I2 rx ry q (hs _ _))
noncomputable def Z5O (K:W.Frag):R2:=λx y H Q=>∃ p xs i v,x=.ref p∧y=.int i∧SqL K H p xs∧atI xs i=some v∧Q v H
noncomputable def Z66 (K:W.Frag):R2:=λx y H Q=>∃ p xs i v,x=.ref p∧y=.int i∧SqT K H p xs∧atI xs i=some v∧Q v H
noncomputable def Z8V:R2:=λx y H Q=>∃ z i c,x=.str z∧y=.int i∧z.length≤sizeLine∧atI z.cps.toList i=some c∧Q (.str ⟨#[c]⟩) H
theorem Z7d:IxR X (Z5O X.K):=by
 intro value slice pins s σ H x y v u Q I rx ry h hs;obtain⟨p,xs,i,z,rfl,rfl,hq,he,q⟩:=h;cases rx;obtain⟨t,rfl⟩:=ry;obtain⟨its,r,pl,hz⟩:=I.list hq;obtain⟨j,h1,h2,h3,h4,h5⟩:=Z1q he;obtain⟨w,ew,rw'⟩:=r.get h2;have hl:=r.length;have hn:=Jt;have fin:EP X pins σ Q w s:=⟨z,H,I,rw',q⟩
 by_cases h0:0≤i
 ·have hj:i.toNat=j:=by
   rw[seqIndex_of h0 h5] at h1;exact Option.some.inj h1
  exact item_listR pl.isList h0 (by omega) (by rw[hj];simpa using ew) fin hs
 ·have hj:(i + (its.toArray.size:Int)).toNat=j:=by
   rw[seqIndex_neg (by omega) h4] at h1;rw[List.size_toArray,←hl];exact Option.some.inj h1
  exact subscriptTail_builtinR (x:=w) pl.isList.typeIs slot_list_getitem.lookup
   (wpAny_getItem_list_neg (Q:=λr s'=>r=w∧EP X pins σ Q r s') pl.isList (by omega) (by rw[List.size_toArray]<;>omega) (by omega) (by rw[hj];simpa using ew) ⟨rfl,fin⟩) hs
theorem Z7H:IxR X (Z66 X.K):=by
 intro value slice pins s σ H x y v u Q I rx ry h hs;obtain⟨p,xs,i,z,rfl,rfl,hq,he,q⟩:=h;cases rx;obtain⟨t,rfl⟩:=ry;obtain⟨its,r,pl,hz⟩:=I.tuple hq;obtain⟨j,h1,h2,h3,h4,h5⟩:=Z1q he;obtain⟨w,ew,rw'⟩:=r.get h2;have hl:=r.length;have hn:=Jt;have fin:EP X pins σ Q w s:=⟨z,H,I,rw',q⟩;exact subscriptTail_builtinR (x:=w) pl.typeIs slot_tuple_getitem.lookup
  (getItem_tuple (j:=j) (Q:=λr s'=>r=w∧EP X pins σ Q r s') pl (by omega) (by omega) (by rw[List.size_toArray,←hl];exact h1) (by simpa using ew) ⟨rfl,fin⟩) hs
theorem Z0S:IxR X Z8V:=by
 intro value slice pins s σ H x y v u Q I rx ry h hs;obtain⟨z,i,c,rfl,rfl,hz,he,q⟩:=h;obtain⟨t,rfl⟩:=rx;obtain⟨t',rfl⟩:=ry;obtain⟨j,h1,h2,h3,h4,h5⟩:=Z1q he;have hl:z.cps.toList.length=z.length:=by simp[Str.length]
 rw[hl] at h1 h4 h5;have hn:=Jt;exact tail_any (typeIs_str s z t) slot_str_getitem.lookup (getItem_str (c:=c) (by
  have e1:decide (i < -(2 ^ 63:Int))=false:=decide_eq_false (by omega);have e2:decide (i ≥ 2 ^ 63)=false:=decide_eq_false (by omega);rw[e1,e2,Bool.or_false]) (by rw[h1];simpa using h2) ⟨.str ⟨#[c]⟩,H,I.tok _,⟨_,rfl⟩,q⟩) hs
theorem Z3O (its:List Value)(n j:Nat)(u:Value):Obj.mapSeq (·.setIfInBounds j u) { cls:=.type "list",data:=.seq its.toArray n } = { cls:=.type "list",data:=.seq (its.set j u).toArray n }:=by
 simp[Obj.mapSeq]
theorem Inv.lst {pins:List (Addr×Obj)}{σ:St}{H:Hp}{s:Shared}{p:Addr}{xs:List V}(I:Inv X pins σ H s)(h:H p=some (.lst xs)) :
 ∃ (its:List Value) (n:Nat),Vals xs its∧s.heap.get? p=some { cls:=.type "list",data:=.seq its.toArray n }∧xs.length≤sizeLine:=by
 obtain⟨z,its,n,r,e⟩:=I.hok p _ h;exact⟨its,n,r,e,z⟩
theorem Inv.lstUpd {pins:List (Addr×Obj)}{σ:St}{H:Hp}{s:Shared}{p:Addr}{xs ys:List V}{its its':List Value}{n n':Nat}{f:Obj→Obj}(I:Inv X pins σ H s)(h:H p=some (.lst xs))
 (ho:s.heap.get? p=some { cls:=.type "list",data:=.seq its.toArray n }) (hf:f { cls:=.type "list",data:=.seq its.toArray n } = { cls:=.type "list",data:=.seq its'.toArray n' }) (r:Vals ys its') (hz:ys.length≤sizeLine) (t:Nat) :
 Inv X pins σ (upd H p (.lst ys)) { s with heap:=s.heap.update p f,toks:=t }:=by
 have e:(s.heap.update p f).get? p=some { cls:=.type "list",data:=.seq its'.toArray n' }:=by
  rw[Heap.get?_update_self f ho (by rw[hf]<;>rfl),hf]
 refine I.write (x:=p) (e:=p) (by rw[h];trivial) (.inl rfl) (λb u hb q=>(Heap.get?_update_other _ _ (Ne.symm hb)).trans q) ⟨_,e⟩ ?_;exact⟨hz,its',n',r,e⟩
noncomputable def Z6L:V→V→V→Hp→(Hp→Prop)→Prop:=λo i v H Q=>∃ p xs k j,o=.ref p∧i=.int k∧H p=some (.lst xs)∧ixN xs.length k=some j∧Q (upd H p (.lst (xs.set j v)))
theorem JI:Z7S X Z6L:=by
 intro pins s σ H o i v ov iv u Q I ro ri rv h;obtain⟨p,xs,k,j,rfl,rfl,hp,hj,q⟩:=h;cases ro;obtain⟨t,rfl⟩:=ri;obtain⟨its,n,r,ho,hz⟩:=I.lst hp;obtain⟨h1,h2,h3,h4⟩:=Z3y hj;have hl:=r.length;have hn:=Jt;have I':Inv X pins σ (upd H p (.lst (xs.set j v))) { s with heap:=s.heap.update p (Obj.mapSeq (·.setIfInBounds j u)) }:=
  I.lstUpd hp ho (Z3O its n j u) (r.set rv j) (by rw[List.length_set];exact hz) s.toks
 by_cases h0:0≤k
 ·have hk:k.toNat=j:=by
   rw[seqIndex_of h0 h4] at h1;exact Option.some.inj h1
  exact W.ki_setAt ho h0 (by omega) (by rw[List.size_toArray,←hl];exact h4) (by rw[hk];exact⟨_,I',q⟩)
 ·have hk:(k + (its.toArray.size:Int)).toNat=j:=by
   rw[seqIndex_neg (by omega) h3] at h1;rw[List.size_toArray,←hl];exact Option.some.inj h1
  exact W.ki_setBack ho (by omega) (by rw[List.size_toArray,←hl];exact h3) (by omega) (by rw[hk];exact⟨_,I',q⟩)
noncomputable def XG:V→Bool
 | .non=>true
 | .bl _=>true
 | .int _=>true
 | .str _=>true
 | _=>false
noncomputable def eqV:V→V→Bool
 | .non,.non=>true
 | .bl a,.bl b=>a == b
 | .bl a,.int b=>(if a then 1 else 0) == b
 | .int a,.bl b=>a == (if b then 1 else 0)
 | .int a,.int b=>a == b
 | .str a,.str b=>a == b
 | _,_=>false
theorem Z7A {A:Around}{s:Shared}{y x:V}{u v:Value}(ry:RelV y u)(rx:RelV x v)(fy:XG y=true)(fx:XG x=true):SeqAt.EqAt A s u v (eqV y x):=by
 cases y with
 | non=>
   cases ry;cases x with
   | non=>cases rx;exact SeqAt.EqAt.same _
   | bl b=>cases rx;exact SeqAt.EqAt.none_bool b
   | int b=>obtain⟨t,rfl⟩:=rx;exact SeqAt.EqAt.none_int b t
   | str b=>obtain⟨t,rfl⟩:=rx;exact SeqAt.EqAt.none_str b t
   | _=>exact absurd (show false=true from fx) Bool.false_ne_true
 | bl a=>
   cases ry;cases x with
   | non=>cases rx;exact SeqAt.EqAt.bool_none a
   | bl b=>cases rx;exact SeqAt.EqAt.bool_bool a b
   | int b=>obtain⟨t,rfl⟩:=rx;exact SeqAt.EqAt.bool_int a b t
   | str b=>obtain⟨t,rfl⟩:=rx;exact SeqAt.EqAt.bool_str a b t
   | _=>exact absurd (show false=true from fx) Bool.false_ne_true
 | int a=>
   obtain⟨t',rfl⟩:=ry;cases x with
   | non=>cases rx;exact SeqAt.EqAt.int_none a t'
   | bl b=>cases rx;exact SeqAt.EqAt.int_bool a t' b
   | int b=>obtain⟨t,rfl⟩:=rx;exact SeqAt.EqAt.int_int a t' b t
   | str b=>obtain⟨t,rfl⟩:=rx;exact SeqAt.EqAt.int_str a t' b t
   | _=>exact absurd (show false=true from fx) Bool.false_ne_true
 | str a=>
   obtain⟨t',rfl⟩:=ry;cases x with
   | non=>cases rx;exact SeqAt.EqAt.str_none a t'
   | bl b=>cases rx;exact SeqAt.EqAt.str_bool a t' b
   | int b=>obtain⟨t,rfl⟩:=rx;exact SeqAt.EqAt.str_int a t' b t
   | str b=>obtain⟨t,rfl⟩:=rx;exact SeqAt.EqAt.str_str a t' b t
   | _=>exact absurd (show false=true from fx) Bool.false_ne_true
 | _=>exact absurd (show false=true from fy) Bool.false_ne_true
noncomputable def eqU (x:V)(u:Value):Bool:=match u with
 | .none=>eqV .non x
 | .bool b=>eqV (.bl b) x
 | .int i _=>eqV (.int i) x
 | .str z _=>eqV (.str z) x
 | _=>false
theorem Z5e {x y:V}{u:Value}(r:RelV y u)(f:XG y=true):eqU x u=eqV y x:=by
 cases y with
 | non=>cases r;rfl
 | bl b=>cases r;rfl
 | int i=>obtain⟨t,rfl⟩:=r;rfl
 | str z=>obtain⟨t,rfl⟩:=r;rfl
 | _=>exact absurd (show false=true from f) Bool.false_ne_true
theorem Ju {x:V}:∀ {xs:List V}{us:List Value},Vals xs us→xs.all XG=true→us.any (eqU x)=xs.any λy=>eqV y x
 | _,_,.nil,_=>rfl
 | y::xs,u::us,.cons r t,f=>by
   rw[List.all_cons,Bool.and_eq_true] at f;rw[List.any_cons,List.any_cons,Z5e r f.1,Ju t f.2]
theorem Jb {A:Around}{s:Shared}{x:V}{v:Value}(rx:RelV x v)(fx:XG x=true):∀ {xs:List V}{us:List Value},Vals xs us→xs.all XG=true→∀ u∈us,SeqAt.EqAt A s u v (eqU x u)
 | _,_,.nil,_=>λu hu=>by cases hu
 | y::xs,u::us,.cons r t,f=>λu' hu=>by
   rw[List.all_cons,Bool.and_eq_true] at f
   rcases List.mem_cons.mp hu with rfl|hu
   ·rw[Z5e r f.1];exact Z7A r rx f.1 fx
   ·exact Jb rx fx t f.2 u' hu
noncomputable def inV (x:V)(xs:List V):Bool:=xs.any λy=>eqV y x
noncomputable def rIn (K:W.Frag)(neg:Bool):R2:=λx y H Q=>∃ p xs,y=.ref p∧(SqL K H p xs∨SqT K H p xs)∧XG x=true∧xs.all XG=true∧Q (.bl (if neg then !inV x xs else inV x xs)) H
theorem Z4J:OpR X (compareOp .In) (rIn X.K false):=by
 intro pins s σ H x y v u Q I rx ry h;obtain⟨p,xs,rfl,hq,fx,fs,q⟩:=h;cases ry
 rcases hq with hq|hq
 ·obtain⟨its,r,pl,hz⟩:=I.list hq;refine SeqAt.in_listAt (eqU x) pl.isList (λw hw=>Jb rx fx r fs w (by simpa using hw)) ⟨.bl _,H,I,rfl,?_⟩;rw[show its.toArray.any (eqU x)=its.any (eqU x) by simp,Ju r fs];exact q
 ·obtain⟨its,r,pl,hz⟩:=I.tuple hq;refine SeqAt.in_tupleAt (eqU x) pl (λw hw=>Jb rx fx r fs w (by simpa using hw)) ⟨.bl _,H,I,rfl,?_⟩;rw[show its.toArray.any (eqU x)=its.any (eqU x) by simp,Ju r fs];exact q
theorem Z2y:OpR X (compareOp .NotIn) (rIn X.K true):=by
 intro pins s σ H x y v u Q I rx ry h;obtain⟨p,xs,rfl,hq,fx,fs,q⟩:=h;cases ry
 rcases hq with hq|hq
 ·obtain⟨its,r,pl,hz⟩:=I.list hq;refine SeqAt.notIn_listAt (eqU x) pl.isList (λw hw=>Jb rx fx r fs w (by simpa using hw)) ⟨.bl _,H,I,rfl,?_⟩;rw[show its.toArray.any (eqU x)=its.any (eqU x) by simp,Ju r fs];exact q
 ·obtain⟨its,r,pl,hz⟩:=I.tuple hq;refine SeqAt.notIn_tupleAt (eqU x) pl (λw hw=>Jb rx fx r fs w (by simpa using hw)) ⟨.bl _,H,I,rfl,?_⟩;rw[show its.toArray.any (eqU x)=its.any (eqU x) by simp,Ju r fs];exact q
theorem Z2T:YA X (.builtin "len") (λxs H Q=>∃ p ys,xs=[.ref p]∧(SqL X.K H p ys∨SqT X.K H p ys)∧Q (.int ys.length) H):=by
 intro pins s σ H xs us Q I r h;obtain⟨p,ys,rfl,hq,q⟩:=h;obtain⟨u,rfl,rx⟩:=Xc r;cases rx;have hn:=Jt
 rcases hq with hq|hq
 ·obtain⟨its,r',pl,hz⟩:=I.list hq;have hlen:=r'.length;exact Calls.call_len_list pl.isList (by simp only[List.size_toArray]<;>omega) ⟨.int ys.length,H,I.tok _,⟨s.toks + 1,by rw[List.size_toArray,hlen]⟩,q⟩
 ·obtain⟨its,r',pl,hz⟩:=I.tuple hq;have hlen:=r'.length;exact len_tuple pl (by simp only[List.size_toArray]<;>omega) ⟨.int ys.length,H,I.tok _,⟨s.toks + 1,by rw[List.size_toArray,hlen]⟩,q⟩
theorem Z2O:YA X (.builtin "len") (λxs H Q=>∃ z,xs=[.str z]∧z.length≤sizeLine∧Q (.int z.length) H):=by
 intro pins s σ H xs us Q I r h;obtain⟨z,rfl,hz,q⟩:=h;obtain⟨u,rfl,t,rfl⟩:=Xc r;have hn:=Jt;exact len_str (by omega) ⟨.int z.length,H,I.tok _,⟨_,rfl⟩,q⟩
theorem Z2q:YA X (.type "list") (λxs H Q=>∃ p ys,xs=[.ref p]∧(SqL X.K H p ys∨SqT X.K H p ys)∧∀ l,H l=none→Q (.ref l) (upd H l (.lst ys))):=by
 intro pins s σ H xs us Q I r h;obtain⟨p,ys,rfl,hq,q⟩:=h;obtain⟨u,rfl,rx⟩:=Xc r;cases rx;have fin:∀ (its:List Value),Vals ys its→ys.length≤sizeLine→∀ (h':Heap) (c':Nat),(∀ b o',s.heap.get? b=some o'→h'.get? b=some o')→
  h'.get? s.heap.objs.size=some { cls:=.type "list",dict:=none,data:=.seq its.toArray c',slots:=#[] }→EP X pins σ Q (.ref s.heap.objs.size) { s with heap:=h' }:=λits r' hz h' c' kp e=>
  ⟨.ref s.heap.objs.size,_,I.laid (t':=s.toks) kp (Nat.le_refl _) (show ObjOk X.prog X.w _ h' _ (.lst ys) from ⟨hz,its,c',r',e⟩),rfl,q _ (I.hok.fresh (Nat.le_refl _))⟩
 rcases hq with hq|hq
 ·obtain⟨its,r',pl,hz⟩:=I.list hq;have hlen:=r'.length;obtain⟨o,ho,hc,n,hd⟩:=pl.isList;exact call_list_seq p (.inl rfl) ho hc hd (λh' c' kp e=>fin its r' hz h' c' kp e) (by simp only[List.size_toArray]<;>omega)
 ·obtain⟨its,r',pl,hz⟩:=I.tuple hq;have hlen:=r'.length;obtain⟨o,ho,hc,n,hd⟩:=pl;exact call_list_seq p (.inr rfl) ho hc hd (λh' c' kp e=>fin its r' hz h' c' kp e) (by simp only[List.size_toArray]<;>omega)
noncomputable def tyV (K:W.Frag)(T:String)(x:V)(H:Hp):Prop:=match x with
 | .str _=>T="str"
 | .int _=>T="int"
 | .ref p=>(T="list"∧∃ xs,SqL K H p xs)∨(T="tuple"∧∃ o,K.lookup p=some o∧o.cls=.type "tuple"∧o.dict=none)∨
  (T="dict"∧((∃ kvs,H p=some (.dK kvs))∨∃ kvs,H p=some (.dT kvs)))∨(T="set"∧∃ S n,H p=some (.set S n))
 | _=>False
theorem Z80 {pins:List (Addr×Obj)}{σ:St}{H:Hp}{s:Shared}{T:String}{x:V}{v:Value}(I:Inv X pins σ H s)(r:RelV x v)(ty:tyV X.K T x H) :
 s.TypeIs v T∧∀ a,v=.ref a→∃ ob,s.heap.get? a=some ob∧ob.dict=none:=by
 cases x with
 | str z=>
   obtain⟨t,rfl⟩:=r;cases (show T="str" from ty);exact⟨typeIs_str s z t,λ_ e=>nomatch e⟩
 | int i=>
   obtain⟨t,rfl⟩:=r;cases (show T="int" from ty);exact⟨typeIs_int s i t,λ_ e=>nomatch e⟩
 | ref p=>
   cases r
   rcases ty with⟨rfl,xs,hq⟩|⟨rfl,o,hk,hc,hd⟩|⟨rfl,hk⟩|⟨rfl,S,n,hk⟩
   ·obtain⟨its,_,pl,_⟩:=I.list hq;refine⟨pl.isList.typeIs,λa e=>?_⟩;cases e;obtain⟨o,n,e,c,hd,_⟩:=pl;exact⟨o,e,hd⟩
   ·refine⟨⟨o,I.kIn p o hk,hc⟩,λa e=>?_⟩;cases e;exact⟨o,I.kIn _ o hk,hd⟩
   ·have z:∃ o,s.heap.get? p=some o∧o.ExactDict:=by
     rcases hk with⟨kvs,hk⟩|⟨kvs,hk⟩
     ·obtain⟨_,_,_,_,o,_,_,e,ex,_⟩:=I.hok p _ hk;exact⟨o,e,ex⟩
     ·obtain⟨_,_,_,_,o,_,_,e,ex,_⟩:=I.hok p _ hk;exact⟨o,e,ex⟩
    obtain⟨o,e,ex⟩:=z;refine⟨⟨o,e,ex.1⟩,λa e2=>?_⟩;cases e2;exact⟨o,e,ex.2.1⟩
   ·obtain⟨o,_,_,_,e,ex,_⟩:=I.hok p _ hk;refine⟨⟨o,e,ex.1⟩,λa e2=>?_⟩;cases e2;exact⟨o,e,ex.2.1⟩
 | _=>exact False.elim ty
noncomputable def tBM (K:W.Frag)(T:String)(r:V→List V→Hp→VK→Prop)(to:TE)(t:TA):TE:=λσ H Q=>to σ H λx H1=>tyV K T x H1∧t σ H1 λxs H2=>r x xs H2 Q
variable {o e:Expr}{es:List Expr}{to:TE}{t:TA}{name:Str}{apos cpos:Pos}{T id:String}{r:V→List V→Hp→VK→Prop}
theorem Z0V (pa:PlainAttrs T)(slot:Slot T name id)(hty:typeOf (.builtin id)=pure (.type "method_descriptor"))(hm:MtR X id r)(ho:PE X o to)(ha:PA X (e::es) t)
 (hbase:attributeBase o name X.env (eval o X.env)=eval o X.env:=by rfl)
 (hfew:((backTo cpos (starEach (e::es) X.env)).all (λx=>!x.1) && (backToKw cpos (keywordEach [] X.env)).all (λx=>x.1.isSome)
   && decide ((e::es).length + ([]:List Keyword).length + (if ([]:List Keyword).isEmpty then 0 else 1) < 30))=true:=by rfl)
 (hline:(apos.endLine == cpos.line)=true:=by rfl) (hs:starEach (e::es) X.env=(false,eval e X.env)::starEach es X.env:=by rfl) (hplain:(backTo cpos (starEach es X.env)).any (·.1)=false:=by rfl) :
 PE X (.Call (.Attribute o name apos) (e::es) [] cpos) (tBM X.K T r to t):=by
 intro pins s σ H Q I h;refine wpAny_Call_method_late hbase hfew hline rfl (thn (ho pins s σ H _ I h) λv s1 zq=>?_);obtain⟨x,H1,I1,r1,ty,q1⟩:=zq;obtain⟨h1,h2⟩:=Z80 I1 r1 ty;refine⟨T,id,pa,slot,hty,h1,h2,?_⟩;have hA:=ha cpos pins s1 σ H1 _ I1 q1;rw[hs] at hA ⊢;refine Calls.callWith_builtin (by show (false || (backTo cpos (starEach es X.env)).any (·.1))=false;rw[hplain]<;>rfl) (Calls.evalArgs_plain ?_);exact thn hA λus s2 ⟨vs,H2,I2,r2,q2⟩=>hm pins s2 σ H2 x vs v us Q I2 r1 r2 q2
end
noncomputable def MtM (X:Cx)(id:String)(r:V→List V→Hp→VK→Prop):Prop:=
 ∀ (pins:List (Addr×Obj)) (s:Shared) (σ:St) (H:Hp) (x:V) (xs:List V) (v:Value) (us:List Value) (Q:VK),Inv X pins σ H s→RelV x v→Vals xs us→r x xs H Q→
   wpAny (model X.prog X.w) X.A (call (.builtin id) (v::us)) (EP X pins σ Q) X.xe s
theorem Vals.one:∀ {x:V}{us:List Value},Vals [x] us→∃ u,us=[u]∧RelV x u
 | _,_,.cons r .nil=>⟨_,rfl,r⟩
section
variable {X:Cx}{pins:List (Addr×Obj)}{σ:St}{H:Hp}{s:Shared}{l b:Addr}{xs ys zs:List V}
theorem Inv.lset {its its':List Value}{n:Nat}{f:Array Value→Array Value}{t':Nat}(I:Inv X pins σ H s)(hH:H l=some (.lst xs))
 (e:s.heap.get? l=some { cls:=.type "list",data:=.seq its.toArray n }) (hf:f its.toArray=its'.toArray) (hv:Vals ys its') (hz:ys.length≤sizeLine) :
 Inv X pins σ (upd H l (.lst ys)) { s with heap:=s.heap.update l (Obj.mapSeq f),toks:=t' }:=by
 have q:=PySem.IsL.update e f;rw[hf] at q;refine I.write (x:=l) (e:=l) (by rw[hH];exact trivial) (.inl rfl) (λb' u hb hu=>(Heap.get?_update_other s.heap (Obj.mapSeq f) (Ne.symm hb)).trans hu) ⟨_,q⟩ ?_;exact⟨hz,its',_,hv,q⟩
theorem Inv.lnew {its:List Value}{t':Nat}(I:Inv X pins σ H s)(hv:Vals ys its)(hz:ys.length≤sizeLine) :
 Inv X pins σ (upd H s.heap.objs.size (.lst ys)) { s with heap:=s.heap.push { cls:=.type "list",data:=.seq its.toArray },toks:=t' }:=
 I.laid (λ_ _ q=>Heap.get?_push_of_some _ q) (Nat.le_refl _) ⟨hz,its,0,hv,Heap.get?_push_size _ rfl⟩
theorem Inv.fresh (I:Inv X pins σ H s):H s.heap.objs.size=none:=I.hok.fresh (Nat.le_refl _)
theorem Inv.lstM (I:Inv X pins σ H s)(hH:H l=some (.lst xs)):xs.length≤sizeLine∧∃ (its:List Value) (n:Nat),Vals xs its∧xs.length=its.length∧s.heap.get? l=some { cls:=.type "list",data:=.seq its.toArray n }:=by
 obtain⟨z,its,n,r,e⟩:=I.hok l _ hH;exact⟨z,its,n,r,r.length,e⟩
end
section
variable {X:Cx}
noncomputable def Z3A:V→List V→Hp→VK→Prop:=λx vs H Q=>∃ l xs y,x=.ref l∧vs=[y]∧H l=some (.lst xs)∧xs.length < sizeLine∧Q .non (upd H l (.lst (xs++[y])))
theorem Jn:MtM X "list.append" Z3A:=by
 intro pins s σ H x vs v us Q I rx rv h;obtain⟨l,xs,y,rfl,rfl,hH,hz,q⟩:=h;cases rx;obtain⟨u,rfl,ru⟩:=rv.one;obtain⟨z,its,n,r,hl,e⟩:=I.lstM hH;refine call_meets F.slot_list_append ⟨_,e,rfl⟩ F.entry_list_append (F.args_list_append_2 _ _) (PySem.list_append l its.toArray n u (by rw[List.size_toArray];omega)) ⟨e,?_⟩;refine⟨.non,_,I.lset (its':=its++[u]) hH e (by simp) (r.append (.cons ru .nil)) ?_,rfl,q⟩;rw[List.length_append,List.length_singleton];omega
noncomputable def Z83:R2:=λx y H Q=>∃ l b xs zs,x=.ref l∧y=.ref b∧H l=some (.lst xs)∧H b=some (.lst zs)∧xs.length + zs.length≤sizeLine∧∀ p,H p=none→Q (.ref p) (upd H p (.lst (xs++zs)))
theorem X2:OpR X (binaryOp .Add) Z83:=by
 intro pins s σ H x y v u Q I rx ry h;obtain⟨l,b,xs,zs,rfl,rfl,hH,hB,hz,q⟩:=h;cases rx;cases ry;obtain⟨z,its,n,r,hl,e⟩:=I.lstM hH;obtain⟨z2,its2,n2,r2,hl2,e2⟩:=I.lstM hB;refine PySem.P.add_list e e2 ?_ (by rw[List.size_toArray,List.size_toArray];omega);have ea:its.toArray++its2.toArray=(its++its2).toArray:=by simp
 rw[ea];exact⟨.ref _,_,I.lnew (t':=s.toks) (r.append r2) (by rw[List.length_append];omega),rfl,q _ I.fresh⟩
end
section
variable {prog:Program}{w:World}{A:Around}{E:Value→Shared→Prop}{s:Shared}
end
section
variable {X:Cx}
end
end L2
namespace Att
open PySem PySem.W PySem.Calls PyProof.Rows
theorem Z12 {P:Params}{h:Heap}:∀ (ns:List Int) (vs:List Value),WellAll P h vs (ns.map WData.int)→IntsAre vs ns:=by
 intro ns
 induction ns with
 | nil=>
   intro vs w;rw[List.map_nil] at w;cases w;exact .nil
 | cons n ns ih=>
   intro vs w;rw[List.map_cons] at w;cases w with
   | cons a b=>
     cases a;exact .cons _ _ (ih _ b)
theorem Z4s {l:OpenLaw}{n:Nat}(hn:l.most=some n){P:Params}{h:Heap}{args:List WData}{vals:List Value}
 (hpre:l.row.toRowW.claim.pre args=true) (hwl:WellAll P h vals args) :
 ∃ a vs ns,vals=[Value.ref a]∧args=[WData.list (ns.map WData.int)]∧h.get? a=some { cls:=.type "list",data:=.seq vs.toArray }∧IntsAre vs ns∧ns.length≤n:=by
 have hsh:WShape.hasAll [] args [.list .int]=true:=(pre_splitW hpre).1;have hc:l.pre.holds [] { args:=args }=true:=(pre_splitW hpre).2;obtain⟨d,r,rfl,h1,h2⟩:=hasAllW_cons hsh;obtain rfl:=hasAllW_nil h2;obtain⟨xs,rfl,h3⟩:=hasW_list h1;obtain⟨ns,rfl⟩:=items_int h3;have hlen:ns.length≤n:=by
  unfold OpenLaw.pre at hc;have h4:(WTm.not (.lt (.lit (.int (n:Int))) (.len (.arg 0)))).holds [] { args:=[.list (ns.map .int)] }=true:=by
   have h4:=(holds_andW hc).1;rw[hn] at h4;exact h4
  have h5:=condW_of h4 (w_not (w_lt w_lit (w_len_list (w_arg rfl))));rw[List.length_map] at h5;refine Nat.le_of_not_lt λq=>?_;have q':(n:Int) < ((ns.length:Nat):Int):=by omega
  first
   | (rw[decide_eq_true q'] at h5;exact absurd h5 (by decide))
   | (simp at h5;omega)
 cases hwl with
 | cons w1 w2=>
   cases w2;cases w1 with
   | list ho hall=>exact⟨_,_,ns,rfl,rfl,ho,Z12 ns _ hall,hlen⟩
theorem Z5c (l:OpenLaw)(args:List WData):l.row.toRowW.claim.post args (.bool true) args=true:=
 postW_of (r:=l.row.toRowW) (X:=(true == true))
  (show WShape.has [] (.bool true) .bool=true by first|rfl|decide|simp[WShape.has,WShape.arms,WShape.armsAll])
  (show (WTm.eq .res (.lit (.bool true))).value [] { args:=args,res:=some (.bool true),after:=args }=some (.bool (true == true)) from w_eq_bool (w_res rfl) w_lit) rfl
theorem attach_call {l:OpenLaw}{n:Nat}{q:Program}{loose:List Str}{XP:(Str→Option Value)→Heap→Prop}{YP:World→Heap→Prop}{d:DefRec}
 (hn:l.most=some n) (hdf:d.params.defaults=[])
 (call:∀ (w:World) (s₀ s₁:Shared) (mg mb:Str→Option Value) (fa:Addr) (o:Obj) (pm cd doc:Value) (a:Addr) (vs:List Value) (ns:List Int),
   Ground q loose [] XP w s₀ mg mb s₁.heap→YP w s₁.heap→
   s₁.heap.get? fa=some o→o.data=.func (docDef d.name d.params d.body d.scope pm cd doc)→s₁.heap.CodeRec cd d.name→mg d.name=some (.ref fa)→
   s₁.heap.get? a=some { cls:=.type "list",data:=.seq vs.toArray }→IntsAre vs ns→ns.length≤n→s₁.gens = #[]→
   codeAny (model l.prog w) callerA (.call (.ref fa) ⟨[.ref a],[]⟩) (λr s'=>r=.ok (.ret (.bool true))∧OldK s₁.heap s'.heap∧s'.os=s₁.os∧AllBare s'.gens) s₁) :
 WalkO q loose XP YP l.row.toRowW d [] (λf vs=>PySem.call f vs):=by
 intro w s₀ s₁ mg mb G Y fa o pm cd doc dV kV ho hd hcd hD hmg hg args vals as hpre hlay hrd hwl hlo;obtain rfl:dV=.none:=Dflts.none hD hdf;obtain rfl:kV=.none:=Dflts.noKw hD;obtain⟨a,vs,ns,rfl,rfl,hobj,hints,hlen⟩:=Z4s hn hpre hwl;refine enter_call (codeAny_mono (call w s₀ s₁ mg mb fa o pm cd doc a vs ns G Y ho (fd_plain hd) hcd hmg hobj hints hlen hg) λr s' hq=>?_);obtain⟨rfl,h2,h3,h4⟩:=hq;exact⟨.inl ⟨.bool true,.bool true,[],rfl,λ_=>rfl,.bool true,Z5c l _,λ_=>⟨List.Pairwise.nil,λ_ hm=>(nomatch hm)⟩⟩,h2,h3,h4⟩
section
variable {prog:Program}{w:World}{A:Around}{E:Value→Shared→Prop}{s:Shared}{K:Frag}
end
end Att
namespace L2
open PySem PySem.Spec PyProof.Rows
theorem Z1y:∀ {vs:List Value}{ns:List Int},IntsAre vs ns→Vals (ns.map V.int) vs
 | _,_,.nil=>.nil
 | _,_,.cons n t h=>.cons ⟨t,rfl⟩ (Z1y h)
noncomputable def Z5u (H:Hp):Prop:=∀ b,H b=none∨∃ o xs,H b=some (.frz o (.lst xs))
theorem Z65 {P:Program}{w:World}{K:W.Frag}{mg mb:Str→Option Value}{CX:CXT}{k:Nat}{fa a:Addr}{fd:FuncData}{x:Str}{sp:Sp}{s₁:Shared}{vs:List Value}{ns:List Int}
 (KX:K.In s₁.heap) (hns:s₁.heap.Ns mainGlobals mg) (hb:s₁.heap.Ns builtinsNs mb) (hbb:∀ x:Str,x≠"__name__"→mb x=bootBuiltins x) (hlim:s₁.heap.NoLimit) (hg:s₁.gens = #[])
 (ha:s₁.heap.get? a=some { cls:=.type "list",data:=.seq vs.toArray }) (hi:IntsAre vs ns) (hl:ns.length≤sizeLine) (hr:Room k callerA)
 (F:∀ base:Heap,K.In base→base.Ns mainGlobals mg→FnOk P w K mg base CX k fa fd [x] sp) (hbind:∀ (s:Shared) (u:Value),BindsTo s fd ⟨[u],[]⟩ [(x,u)])
 (hsp:∀ H:Hp,Z5u H→SqL K H a (ns.map V.int)→sp [.ref a] H (λv _=>v=.bl true) λ_ _ _=>False)
 (hCX:∀ H e s',CX [] H s₁ (λ_ _ _=>False) e s'→False) :
 codeAny (model P w) callerA (.call (.ref fa) ⟨[.ref a],[]⟩) (λr s'=>r=.ok (.ret (.bool true))∧OldK s₁.heap s'.heap∧s'.os=s₁.os∧AllBare s'.gens) s₁:=by
 have rv:=Z1y hi;have lenV:=hi.length;have core:∀ H:Hp,Z5u H→SqL K H a (ns.map V.int)→HOk P w H s₁.heap→(∀ b,H b≠none→b=a)→(H a≠none→K.lookup a=none)→
  codeAny (model P w) callerA (.call (.ref fa) ⟨[.ref a],[]⟩) (λr s'=>r=.ok (.ret (.bool true))∧OldK s₁.heap s'.heap∧s'.os=s₁.os∧AllBare s'.gens) s₁:=by
  intro H hO hS hok hA hK;have base_of:∀ {b:Addr}{o:Obj},s₁.heap.get? b=some o→H b=none→(JC s₁.heap H).get? b=some o:=λe n=>Z5D e n;have noA:∀ {b:Addr}{o:Obj}{es:Array DictEntry}{ep:Nat},s₁.heap.get? b=some o→o.data=.dict es ep→H b=none:=fun {b o es ep} e d=>by
   cases q:H b with
   | none=>rfl
   | some u=>
     have e':b=a:=hA b (by rw[q];simp);subst e';rw[ha] at e;cases e;have d':Data.seq vs.toArray _=Data.dict es ep:=d;cases d'
  have nsK:∀ {b:Addr}{m:Str→Option Value},s₁.heap.Ns b m→(JC s₁.heap H).Ns b m:=fun {b m} ⟨o,es,ep,e,d,r⟩=>⟨o,es,ep,base_of e (noA e d),d,r⟩
  have hKb:K.In (JC s₁.heap H):=λb o e=>base_of (KX b o e) (by
   cases q:H b with
   | none=>rfl
   | some u=>
     have e':b=a:=hA b (by rw[q];simp);subst e';rw[hK (by rw[q];simp)] at e;cases e)
  have hM:Mod K mg (JC s₁.heap H):=⟨hKb,nsK hns,⟨mb,nsK hb,hbb⟩,let ⟨mc,h1,h2⟩:=hlim;⟨mc,nsK h1,h2⟩⟩;have e0:Env0 P w K mg (JC s₁.heap H) callerA [] s₁ H:=⟨rfl,hM,λb o e=>Z6Q e,Nat.le_of_eq (Z4F _ _),trivial,λb hb=>absurd (show b∈([]:List Addr) from hb) (by simp),hok,.of_eq hg⟩;refine codeAny_mono ((F _ hKb (nsK hns)).run callerA [] s₁ H ⟨[.ref a],[]⟩ [.ref a] [.ref a] _ _ hr e0 (hbind s₁ (.ref a)) (.cons rfl .nil) (hsp H hO hS)) λr s' h=>?_;cases r with
  | error e=>exact (hCX H e s' h).elim
  | ok fl=>
    cases fl with
    | next=>exact False.elim h
    | brk=>exact False.elim h
    | cont=>exact False.elim h
    | ret u=>
      obtain⟨v,H',os,bare,un,hok',r',q⟩:=h;have q':v=.bl true:=q;subst q';obtain rfl:u=Value.bool true:=r';refine⟨rfl,OldK.of_keep λb o e=>?_,os,bare⟩;cases q:H b with
      | none=>exact un.keep b o e q (by intro z;exact absurd (show b∈([]:List Addr) from z) (by simp)) (by simp)
      | some u=>
        rcases hO b with z|⟨ob,xs,z⟩
        ·rw[q] at z;cases z
        ·have z2:=un.frzs b ob _ z;obtain⟨e1,_⟩:=hok b _ z;obtain⟨e2,_⟩:=hok' b _ z2;rw[e] at e1;cases e1;exact e2
 cases hk:K.lookup a with
 | some o=>
   have e:=KX a o hk;rw[ha] at e;cases e;refine core (λ_=>none) (λ_=>.inl rfl) (.inr ⟨_,vs.toArray,_,hk,rfl,rfl,rfl,by rw[List.size_toArray,lenV];exact hl,by simpa using rv⟩) (λb u z=>by have z':(none:Option HO)=some u:=z;cases z') (λb z=>absurd rfl z) λz=>absurd rfl z
 | none=>
   refine core (λb=>if b=a then some (.frz { cls:=.type "list",data:=.seq vs.toArray } (.lst (ns.map V.int))) else none) (λb=>?_) (.inl (.inr ⟨{ cls:=.type "list",data:=.seq vs.toArray },if_pos rfl⟩)) (λb u z=>?_) (λb z=>?_) λ_=>hk
   ·by_cases hb:b=a
    ·exact .inr ⟨_,_,if_pos hb⟩
    ·exact .inl (if_neg hb)
   ·by_cases hb:b=a
    ·have z':=(if_pos hb).symm.trans z;cases z';subst hb;exact⟨ha,by rw[List.length_map];exact hl,vs,_,rv,ha⟩
    ·have z':=(if_neg hb).symm.trans z;cases z'
   ·by_cases hb:b=a
    ·exact hb
    ·exact absurd (if_neg hb) z
theorem walk_of {l:W.OpenLaw}{n k:Nat}{q:Program}{loose:List Str}{XP:(Str→Option Value)→Heap→Prop}{YP:World→Heap→Prop}{d:DefRec}{K:Params→W.Frag}{CX:World→CXT}{sp:World→Sp}{x:Str}
 (hn:l.most=some n) (hn2:n≤sizeLine) (hdf:d.params.defaults=[]) (hr:Room k callerA)
 (hY:∀ (w:World) (h:Heap),YP w h→(K w.params).In h)
 (F:∀ (w:World) (mg:Str→Option Value) (fa:Addr) (h:Heap),(K w.params).In h→h.Ns mainGlobals mg→mg d.name=some (.ref fa)→
   ∃ fd:FuncData,(∀ (s:Shared) (u:Value),BindsTo s fd ⟨[u],[]⟩ [(x,u)])∧
     ∀ base:Heap,(K w.params).In base→base.Ns mainGlobals mg→FnOk l.prog w (K w.params) mg base (CX w) k fa fd [x] (sp w))
 (hsp:∀ (w:World) (H:Hp) (a:Addr) (ns:List Int),ns.length≤n→Z5u H→SqL (K w.params) H a (ns.map V.int)→sp w [.ref a] H (λv _=>v=.bl true) λ_ _ _=>False)
 (hCX:∀ (w:World) (H:Hp) (s:Shared) (e:Value) (s':Shared),CX w [] H s (λ_ _ _=>False) e s'→False) :
 W.WalkO q loose XP YP l.row.toRowW d [] (λf vs=>PySem.call f vs):=by
 refine Att.attach_call hn hdf λw s₀ s₁ mg mb fa o pm cd doc a vs ns G Y ho hd hcd hmg hobj hints hlen hg=>?_;have KX:=hY w _ Y;obtain⟨fd,hb,hF⟩:=F w mg fa _ KX G.T.g hmg;exact Z65 KX G.T.g G.T.b G.T.builtins G.T.nolimit hg hobj hints (Nat.le_trans hlen hn2) hr hF hb (λH hO hS=>hsp w H a ns hlen hO hS) λH e s'=>hCX w H s₁ e s'
noncomputable def ZS (s:Stmt)(j:Nat):Stmt:=match s with
 | .ClassDef _ _ _ body _ _ _ _ _ _ _=>body.getD j (.Pass ⟨0,0,0,0⟩)
 | _=>.Pass ⟨0,0,0,0⟩
noncomputable def Za (s:Stmt):Arguments:=match s with
 | .FunctionDef _ a _ _ _ _ _ _ _ _=>a
 | _=>{ posonlyargs:=[],args:=[],vararg:=none,kwonlyargs:=[],kw_defaults:=[],kwarg:=none,defaults:=[] }
noncomputable def Z9 (s:Stmt):List Stmt:=match s with
 | .FunctionDef _ _ b _ _ _ _ _ _ _=>b
 | _=>[]
noncomputable def Z3 (s:Stmt):Scope:=match s with
 | .FunctionDef _ _ _ _ _ _ sc _ _ _=>sc
 | _=>{ kind:=.function,names:=[],isGenerator:=false,isCoroutine:=false }
noncomputable abbrev CX0:CXT:=λ_ _ _ _ _ _=>False
noncomputable abbrev E0:XK:=λ_ _ _=>False
theorem Zg {X:Cx}:X1 CX0 X E0:=λ_ _ _ _ _ _ _ h=>h.elim
structure Fun (K:W.Frag)(x qual:Str)(st:Stmt)(f:Addr)(fd:FuncData):Prop where
 ex:∃ (oc:Value) (od:Option Addr) (kV doc pm:Value) (an:Option Addr) (cdv ct:Value) (osl:Array (Option Value)),
  fd=W.fnOf x qual (Za st) (Z9 st) (Z3 st) .none kV doc pm an cdv ct∧K.lookup f=some ⟨oc,od,.func fd,osl⟩∧W.codeIn K cdv qual=true
 kp:W.keepIn K (.ref f)=true
section
variable {P:Program}{w:World}{K:W.Frag}{mg:Str→Option Value}{base:Heap}
theorem Fun.ok {x qual:Str}{st:Stmt}{f:Addr}{fd:FuncData}{N ps:List Str}{k:Nat}{sp:Sp}(F:Fun K x qual st f fd)(S:FnScope N ps (Z3 st))(len:∀ vs H Q E,sp vs H Q E→vs.length=ps.length)
 (hbody:∀ (cdv:Value) (A:Around) (outer:List Env) (s:Shared) (H:Hp) (vs:List V) (Q:VK) (E:XK),Room k (A.deeper (envOfC qual (Z3 st) s.heap.objs.size f cdv))→sp vs H Q E→
   ∃ t,PSs (Xs CX0 P w K mg base N qual (Z3 st) f cdv A outer s H E).nox (Z9 st) t∧t { nx:=λ_ H'=>Q .non H',rt:=Q } (start N vs) H):FnOk P w K mg base CX0 (k + 1) f fd ps sp:=by
 obtain⟨oc,od,kV,doc,pm,an,cdv,ct,osl,rfl,lk,hcd⟩:=F.ex;refine Z6B lk hcd S len λA outer s H vs Q E hr hsp=>?_;obtain⟨t,h,q⟩:=hbody cdv A outer s H vs Q E hr hsp;exact⟨t,h.nox,q⟩
theorem Fun.binds {x qual:Str}{st:Stmt}{f:Addr}{fd:FuncData}{ps:List Str}(F:Fun K x qual st f fd)
 (h:∀ (kV doc pm:Value) (an:Option Addr) (cdv ct:Value) (us:List Value),us.length=ps.length→bindArgs (W.fnOf x qual (Za st) (Z9 st) (Z3 st) .none kV doc pm an cdv ct) ⟨us,[]⟩=pure (ps.zip us)):Binds K fd ps []:=by
 obtain⟨oc,od,kV,doc,pm,an,cdv,ct,osl,rfl,lk,hcd⟩:=F.ex;exact .all (h kV doc pm an cdv ct)
theorem Zf {x qual:Str}{st:Stmt}{f:Addr}{oc:Value}{od an:Option Addr}{osl:Array (Option Value)}{kV doc pm cdv ct:Value}(l:K.lookup f=some ⟨oc,od,.func (W.fnOf x qual (Za st) (Z9 st) (Z3 st) .none kV doc pm an cdv ct),osl⟩)
 (c:W.codeIn K cdv qual=true) (k:W.keepIn K (.ref f)=true):Fun K x qual st f (W.fnOf x qual (Za st) (Z9 st) (Z3 st) .none kV doc pm an cdv ct):=⟨⟨oc,od,kV,doc,pm,an,cdv,ct,osl,rfl,l,c⟩,k⟩
end
theorem Z1K {n:Nat}(h:n≤1000):n < sizeLine:=Nat.lt_of_le_of_lt h (by decide)
section
variable {X:Cx}
theorem pv (i:Nat){x:Str}{pos:Pos}(hN:X.N[i]? = some x:=by rfl)(hv:Vis X.env.scope x:=by first|exact Or.inl rfl|exact Or.inr (Or.inl rfl)|exact Or.inr (Or.inr rfl))(hd:(x == ("__debug__" : Str))=false:=by decide)
 (hcd:(x == ("__classdict__" : Str))=false:=by decide):PE X (.Name x pos) (Z0C i):=Z84 hN hv hd hcd
end
theorem Z5q {c A B:Prop}[Decidable c](h1:c→A)(h2:¬ c→B):if c then A else B:=by
 by_cases h:c
 ·rw[if_pos h];exact h1 h
 ·rw[if_neg h];exact h2 h
noncomputable def Same (H H':Hp):Prop:=∀ b o,H b=some o→H' b=some o
theorem Same.refl (H:Hp):Same H H:=λ_ _ h=>h
theorem Same.trans {H H1 H2:Hp}(a:Same H H1)(b:Same H1 H2):Same H H2:=λc o h=>b c o (a c o h)
theorem Same.free {H H':Hp}(e:Same H H'){l:Addr}(h:H' l=Option.none):H l=Option.none:=by
 cases q:H l with
 | none=>rfl
 | some o=>
   rw[e l o q] at h;cases h
noncomputable def YY (env:Env)(cs:List (Str×Addr))(p:Str×NameKind):List (Str×Addr):=
 if (p.2 == NameKind.free)=true then (match env.cells.lookup p.1 with|some c=>(p.1,c)::cs|none=>cs) else cs
noncomputable def XR (scope:Scope)(env:Env):List (Str×Addr):=scope.names.foldl (YY env) []
theorem JF {env:Env}:∀ (ns:List (Str×NameKind)) (cs:List (Str×Addr)),(∀ p∈ns,p.2=.free→∃ c,env.cells.lookup p.1=some c)→
 (forIn ns cs (λ(p:Str×NameKind) (r:List (Str×Addr))=>(if (p.2 == NameKind.free)=true then do
   let a←cellOf env p.1
   pure (ForInStep.yield ((p.1,a)::r)) else pure (ForInStep.yield r):Sem (ForInStep (List (Str×Addr))))))=(pure (ns.foldl (YY env) cs):Sem (List (Str×Addr)))
 | [],cs,_=>rfl
 | p::ns,cs,h=>by
   rw[List.forIn_cons,List.foldl_cons]
   by_cases hk:(p.2 == NameKind.free)=true
   ·obtain⟨c,hc⟩:=h p List.mem_cons_self (by simpa using hk);have e:YY env cs p=(p.1,c)::cs:=by unfold YY;rw[if_pos hk,hc]
    rw[if_pos hk,e];have e2:cellOf env p.1=pure c:=by unfold cellOf;rw[hc]
    rw[e2];exact JF ns _ λq hq=>h q (List.mem_cons_of_mem _ hq)
   ·have e:YY env cs p=cs:=by unfold YY;rw[if_neg hk]
    rw[if_neg hk,e];exact JF ns _ λq hq=>h q (List.mem_cons_of_mem _ hq)
theorem XV {scope:Scope}{env:Env}(h:∀ p∈scope.names,p.2=.free→∃ c,env.cells.lookup p.1=some c):closureFor scope env=pure (XR scope env):=by
 have e:=JF scope.names [] h;unfold closureFor XR;exact (congrArg (λm=>m >>= λs=>pure s) e).trans rfl
theorem Xg {env:Env}:∀ (ns:List (Str×NameKind)) (cs:List (Str×Addr)),(∀ x c,cs.lookup x=some c→env.cells.lookup x=some c)→
 ∀ x c,(ns.foldl (YY env) cs).lookup x=some c→env.cells.lookup x=some c
 | [],cs,h=>h
 | p::ns,cs,h=>by
   refine Xg ns _ λx c q=>?_;unfold YY at q
   by_cases hk:(p.2 == NameKind.free)=true
   ·rw[if_pos hk] at q;cases e:env.cells.lookup p.1 with
    | none=>rw[e] at q;exact h x c q
    | some d=>
      rw[e] at q;simp only[List.lookup_cons] at q
      by_cases hx:(x == p.1)=true
      ·rw[hx] at q;have hx':x=p.1:=by simpa using hx
       rw[hx',e];exact q
      ·have hx':(x == p.1)=false:=by simpa using hx
       rw[hx'] at q;exact h x c q
   ·rw[if_neg hk] at q;exact h x c q
theorem Z1J {env:Env}:∀ (ns:List (Str×NameKind)) (cs:List (Str×Addr)),(∀ x c,cs.lookup x=some c→env.cells.lookup x=some c)→
 ∀ x c,cs.lookup x=some c→(ns.foldl (YY env) cs).lookup x=some c
 | [],cs,_,x,c,q=>q
 | p::ns,cs,h,x,c,q=>by
   have hsub:∀ y d,(YY env cs p).lookup y=some d→env.cells.lookup y=some d:=by
    have:=Xg (env:=env) [p] cs h;exact this
   refine Z1J ns _ hsub x c ?_;unfold YY
   by_cases hk:(p.2 == NameKind.free)=true
   ·rw[if_pos hk];cases e:env.cells.lookup p.1 with
    | none=>exact q
    | some d=>
      simp only[List.lookup_cons]
      by_cases hx:(x == p.1)=true
      ·rw[hx];have hx':x=p.1:=by simpa using hx
       have:=h x c q;rw[hx',e] at this;exact this
      ·have hx':(x == p.1)=false:=by simpa using hx
       rw[hx'];exact q
   ·rw[if_neg hk];exact q
theorem Z0K {env:Env}{x:Str}{c:Addr}(hc:env.cells.lookup x=some c):∀ (ns:List (Str×NameKind)) (cs:List (Str×Addr)),(∀ x c,cs.lookup x=some c→env.cells.lookup x=some c)→
 (x,NameKind.free)∈ns→(ns.foldl (YY env) cs).lookup x=some c
 | [],_,_,h=>nomatch h
 | p::ns,cs,h,hm=>by
   have hsub:∀ y d,(YY env cs p).lookup y=some d→env.cells.lookup y=some d:=Xg (env:=env) [p] cs h
   rcases List.mem_cons.mp hm with e|hm
   ·subst e;refine Z1J ns _ hsub x c ?_;unfold YY;rw[if_pos (by rfl),hc];simp[List.lookup_cons]
   ·exact Z0K hc ns _ hsub hm
noncomputable def ZY (X:Cx)(scope:Scope)(N:List Str)(C:Addr)(s:Shared)(H:Hp)(fp:List Addr):Cx where
 prog:=X.prog
 w:=X.w
 K:=X.K
 mg:=X.mg
 base:=X.base
 A:=X.A
 N:=N
 s₀:=s
 H₀:=H
 env:=compEnvC scope (XR scope X.env) C X.env
 outer:=X.stack
 stack:=X.stack
 ex:=fp
 calm:=X.calm
 fn:=λ_=>false
 pn:=[]
 xe:=λ_ _=>False
noncomputable def blk (fr:List (Option Nat))(σ:St):St:=fr.map λo=>match o with
 | none=>none
 | some i=>(σ[i]?).getD none
structure BlkOk (X:Cx)(scope:Scope)(N:List Str)(fr:List (Option Nat)):Prop where
 kind:scope.kind=.function
 nd:N.Nodup
 len:fr.length=N.length
 nocell:∀ p∈scope.names,p.2≠.cell
 loc:∀ p∈scope.names,p.2=.local→scope.names.lookup p.1=some .local
 free:∀ p∈scope.names,p.2=.free→X.env.kindOf p.1=some .cell∨X.env.kindOf p.1=some .free
 out:∀ (j i:Nat) (x:Str),N[j]? = some x→fr[j]? = some (some i)→X.N[i]? = some x∧(x,NameKind.free)∈scope.names∧((relabel scope X.env).names.lookup x=some .cell∨(relabel scope X.env).names.lookup x=some .free)
theorem Xo {α:Type}{x n:Str}{v:α}{r:List (Str×α)}:((n,v)::r).lookup x=if x=n then some v else r.lookup x:=by
 rw[List.lookup_cons]
 by_cases hx:x=n
 ·rw[if_pos hx,show (x == n)=true by simpa using hx]
 ·rw[if_neg hx,show (x == n)=false by simpa using hx]
theorem Z0f {env:Env}:∀ {ns:List (Str×NameKind)}{x:Str}{k:NameKind},
 (ns.map λ(n,k)=>if (k == NameKind.free && env.scope.kind == .function && env.kindOf n == some .cell) then (n,NameKind.cell) else (n,k)).lookup x=some k→(k=.cell∨k=.free)→
 (∀ p∈ns,p.2≠.cell)→(x,NameKind.free)∈ns
 | [],x,k,h,_,_=>by simp at h
 | (n,q)::r,x,k,h,hk,hc=>by
   have ih:=λh'=>@Z0f env r x k h' hk λp hp=>hc p (List.mem_cons_of_mem _ hp);have h':List.lookup x ((if (q == NameKind.free && env.scope.kind == .function && env.kindOf n == some .cell)=true then (n,NameKind.cell) else (n,q))::(r.map λ(n,k)=>if (k == NameKind.free && env.scope.kind == .function && env.kindOf n == some .cell) then (n,NameKind.cell) else (n,k)))=some k:=h
   by_cases c:(q == NameKind.free && env.scope.kind == .function && env.kindOf n == some .cell)=true
   ·rw[if_pos c,Xo] at h';have hq:q=.free:=by
     simp only[Bool.and_eq_true,beq_iff_eq] at c;exact c.1.1
    by_cases hx:x=n
    ·subst hx;subst hq;exact List.mem_cons_self
    ·rw[if_neg hx] at h';exact List.mem_cons_of_mem _ (ih h')
   ·rw[if_neg c,Xo] at h'
    by_cases hx:x=n
    ·rw[if_pos hx] at h';have hq:q=k:=Option.some.inj h';subst hx;subst hq
     rcases hk with e|e
     ·exact absurd e (hc _ List.mem_cons_self)
     ·rw[e];exact List.mem_cons_self
    ·rw[if_neg hx] at h';exact List.mem_cons_of_mem _ (ih h')
section
variable {X:Cx}{pins:List (Addr×Obj)}{σ:St}{H:Hp}{s:Shared}{scope:Scope}{N:List Str}{fr:List (Option Nat)}{fp:List Addr}{D:Addr}
theorem Inv.block (I:Inv X pins σ H s)(B:BlkOk X scope N fr)(hfp:∀ b∈fp,Xk X pins H b)(hlt:∀ b∈fp,b < s.heap.objs.size){h1:Heap}{C:Addr}{m:Str→Option Value}{t':Nat}
 (hD:s.heap.objs.size≤D) (hC:s.heap.objs.size≤C) (hDC:D≠C) (hk:∀ b o,s.heap.get? b=some o→h1.get? b=some o) (hn:h1.Ns C m) (hl:h1.get? D=some { cls:=.type "list",data:=.seq #[] 0 }) :
 Inv (ZY X scope N C s H fp) [] (blk fr σ) (upd H D (.lst [])) { s with heap:=h1,toks:=t' }:=by
 have sub:=Xg (env:=X.env) scope.names [] (λ_ _ q=>by simp at q);have hHD:H D=none:=I.hok.fresh hD;have hHC:H C=none:=I.hok.fresh hC;have inFs:∀ b∈frs X.stack,∃ o,s.heap.get? b=some o:=λb hb=>by
  obtain⟨_,o,ho,_⟩:=I.stack.mem hb;exact⟨o,ho⟩
 refine⟨⟨I.ok.mod,B.kind,I.ok.glob,I.ok.blt,hC,?_,?_,?_,I.ok.hd,I.ok.frames,.inl rfl,?_,I.bs,Nat.le_trans I.ok.bsz I.sz,?_,?_,I.stack,I.stkFree⟩,rfl,I.bare,?_,?_,?_,?_,?_,?_,?_,?_⟩
 ·intro x y c e1 e2;exact I.ok.inj x y c (sub x c e1) (sub y c e2)
 ·intro x hx;have hx':∃ k,(relabel scope X.env).names.lookup x=some k∧(k=.cell∨k=.free):=by
   rcases hx with h|h
   ·exact⟨_,h,.inl rfl⟩
   ·exact⟨_,h,.inr rfl⟩
  obtain⟨k,hk1,hk2⟩:=hx';have hm:=Z0f hk1 hk2 B.nocell;obtain⟨c,hc⟩:=I.ok.has x (B.free _ hm rfl);exact⟨c,Z0K hc scope.names [] (λ_ _ q=>by simp at q) hm⟩
 ·intro x c e;exact nomatch e
 ·intro b hb;exact⟨Nat.ne_of_lt (Nat.lt_of_lt_of_le (hlt b hb) hC),λx c e=>(hfp b hb).2.2.2.2.1 x c (sub x c e)⟩
 ·intro b o e hb
  rcases (hfp b hb).2.2.2.1 with z|z
  ·exact I.ok.noex b o e z
  ·exact absurd (Nat.lt_of_lt_of_le (Nat.lt_of_lt_of_le (Heap.lt_size e) I.ok.bsz) z) (Nat.lt_irrefl _)
 ·intro b hb hm
  rcases List.mem_cons.mp (I.stkSub b hm) with z|z
  ·exact (hfp b hb).2.1 z
  ·exact (hfp b hb).2.2.1 z
 ·exact Un.laid hk hD hHD
 ·refine⟨m,hn,λj x v e1 e2 e3=>?_⟩;unfold blk at e2;rw[List.getElem?_map] at e2;cases ef:fr[j]? with
  | none=>rw[ef] at e2;cases e2
  | some o=>
    cases o with
    | none=>rw[ef] at e2;simp at e2
    | some i=>
      rw[ef] at e2;have e2':σ[i]? = some (some v):=by
       cases eσ:σ[i]? with
       | none=>simp[eσ] at e2
       | some o=>simp[eσ] at e2;rw[e2]
      obtain⟨hN,hm,hk'⟩:=B.out j i x e1 ef;obtain⟨m0,_,hl0⟩:=I.loc;have hkx:=B.free _ hm rfl;have vis:Vis X.env.scope x:=by
       rcases hkx with z|z
       ·exact .inr (.inl z)
       ·exact .inr (.inr z)
      obtain⟨u,r,l⟩:=hl0 i x v hN e2' vis;refine⟨u,r,.inr ⟨hk',?_⟩⟩
      rcases l with⟨kl,_⟩|⟨_,c,hc,hcell⟩
      ·rcases hkx with z|z<;>(rw[kl] at z;cases z)
      ·exact⟨c,Z0K hc scope.names [] (λ_ _ q=>by simp at q) hm,hcell.keeps hk⟩
 ·intro x c e;obtain⟨v,hv⟩:=I.cell x c (sub x c e);exact⟨v,hv.keeps hk⟩
 ·show upd H D _ C=none;rw[Z2 (Ne.symm hDC)];exact hHC
 ·intro x c e;have hc:=I.freeC x c (sub x c e);obtain⟨v,hv⟩:=I.cell x c (sub x c e);show upd H D _ c=none;rw[Z2 (Nat.ne_of_lt (Nat.lt_of_lt_of_le hv.lt hD))];exact hc
 ·intro p hp;exact absurd (show p∈([]:List (Addr×Obj)) from hp) (by simp)
 ·exact I.hok.laid hk hD ⟨Nat.zero_le _,[],0,.nil,by simpa using hl⟩
 ·show (blk fr σ).length=N.length;unfold blk;rw[List.length_map];exact B.len
theorem Inv.unblock {C:Addr}{τ:St}{H':Hp}{s':Shared}{h':Heap}(I:Inv X pins σ H s)(hfp:∀ b∈fp,Xk X pins H b)(hC:s.heap.objs.size≤C)
 (J:Inv (ZY X scope N C s H fp) [] τ H' s') (hs:Heap.SameBut C s'.heap h'):Inv X pins σ H' { s' with heap:=h' }:=by
 have hHC:H' C=none:=J.free;have ne:∀ b o,s.heap.get? b=some o→b≠C:=λb o e=>Nat.ne_of_lt (Nat.lt_of_lt_of_le (Heap.lt_size e) hC);have u:=J.base;refine I.call' (s':={ s' with heap:=h' }) (ch:=fp) J.os ⟨λb o e n hb hx=>?_,λb o e n hb hx=>?_,u.free,λb o e hx=>?_,u.tups,u.frzs,u.tbls⟩ ?_ J.bare ?_
 ·exact (hs.2 b (ne b o e)).trans (u.keep b o e n hb hx)
 ·obtain⟨sl,q⟩:=u.slot b o e n hb hx;exact⟨sl,(hs.2 b (ne b o e)).trans q⟩
 ·obtain⟨o',q⟩:=u.there b o e hx;exact⟨o',(hs.2 b (ne b o e)).trans q⟩
 ·intro b ob e;refine (J.hok b ob e).stay (λc w' hc q=>(hs.2 c ?_).trans q) (λ_ q=>q) λ_ _ q=>q;rintro rfl
  rcases hc with rfl|hc
  ·rw[hHC] at e;cases e
  ·rw[hHC] at hc;cases hc
 ·intro b hb;obtain⟨_,h2,h3,h4,h5,h6⟩:=hfp b hb;exact⟨h4,h2,h5,h6⟩
end
noncomputable def LC (J:It)(D:Addr)(τ0:St)(H1:Hp)(g:TG)(te:TE)(Q:VK):Prop:=∃ W:Nat→Nat→List V→St→Hp→Prop,
 (∃ m,W 0 m [] τ0 (upd H1 D (.lst [])))∧∀ i m ys τ H2,W i m ys τ H2→H2 D=some (.lst ys)∧
   ((J.stop i H2∧Q (.ref D) H2)∨(J.go i H2∧ys.length < sizeLine∧∃ N:List V→St→Hp→Prop,(∀ zs τ' H',N zs τ' H'→∃ m',m' < m∧W (i + 1) m' zs τ' H')∧∀ x H3,J.yld i H2 x H3→g x τ H3 λτ4 H4=>te τ4 H4 λy H5=>H5 D=some (.lst ys)∧N (ys++[y]) τ4 (upd H5 D (.lst (ys++[y])))))
noncomputable def tLC (fr:List (Option Nat))(wi:TI)(g:TG)(te:TE):TE:=λσ H Q=>wi σ H λJ H1=>∀ D,H1 D=none→LC J D (blk fr σ) H1 g te Q
theorem Xy {X:Cx}{elt target iter:Expr}{scope:Scope}{pos:Pos}{N:List Str}{fr:List (Option Nat)}{wi:TI}{g:TG}{te:TE}(hc:X.calm=true)(B:BlkOk X scope N fr)(hi:PI X target iter wi)
 (hg:∀ C s H fp,PG (ZY X scope N C s H fp) target g) (he:∀ C s H fp,PE (ZY X scope N C s H fp) elt te)
 (hs:∀ x,foldedSetIterable iter X.env x=pure x:=by intro _;rfl):PE X (.ListComp elt [⟨target,iter,[],0⟩] scope pos) (tLC fr wi g te):=by
 intro pins s σ H Q I h;rw[eval_ListComp];refine wpAny_comprehension_free (use:=none) (g:=⟨target,iter,[],0⟩) (gs:=[]) rfl hs (XV λp hp hk=>I.ok.has p.1 (B.free p hp hk)) B.kind B.loc (thn (hi pins s σ H _ I h) λv s1 h1=>thn h1 λitv s2 h2=>?_);obtain⟨it,fp,tn,J,H2,e,I2,T,st2,f2,rd⟩:=h2;subst e;obtain⟨W,⟨m0,w0⟩,turn⟩:=rd s2.heap.objs.size (I2.hok.fresh (Nat.le_refl _));refine wpAny_newObj_type (hd:=by size_fits) (wpAny_newFunctionEnv B.nocell (by intro y hy;simp at hy) (λh₁ hns₁ hsb₁=>?_) B.kind);dsimp only at hns₁ hsb₁ ⊢;generalize hH2:s2.heap.push { cls:=.type "list",dict:=none,data:=.seq ([]:List Value).toArray }=G2 at hns₁ hsb₁ ⊢;have hC:G2.objs.size=s2.heap.objs.size + 1:=by rw[←hH2,Heap.size_push]
 have hDC:s2.heap.objs.size≠G2.objs.size:=by rw[hC];exact Nat.ne_of_lt (Nat.lt_succ_self _)
 have hCle:s2.heap.objs.size≤G2.objs.size:=by rw[hC];exact Nat.le_succ _
 have old:∀ b o,s2.heap.get? b=some o→h₁.get? b=some o:=λb o e=>hsb₁.extBut b o (by rw[hC];exact Nat.ne_of_lt (Nat.lt_succ_of_lt (Heap.lt_size e))) (Heap.get?_push_of_some _ (hH2▸Heap.get?_push_of_some _ e));have hacc:h₁.get? s2.heap.objs.size=some { cls:=.type "list",data:=.seq #[] 0 }:=hsb₁.extBut _ _ hDC (Heap.get?_push_of_some _ (hH2▸Heap.get?_push_size _ rfl));have hlt:∀ b∈fp,b < s2.heap.objs.size:=λb hb=>by
  obtain⟨o,ho,_⟩:=T.obj 0 _ st2 b hb;exact Heap.lt_size ho
 have IB:=I2.block (t':=s2.toks + ([]:List (Str×Value)).length) B f2 hlt (Nat.le_refl _) hCle hDC old hns₁ hacc;have stB:tn 0 h₁:=T.keep 0 _ _ st2 λb _ o e=>old b o e;have fr0:∀ b∈fp,upd H2 s2.heap.objs.size (.lst []) b=none:=λb hb=>by
  rw[Z2 (Nat.ne_of_lt (hlt b hb))];exact (f2 b hb).1
 have sub:=Xg (env:=X.env) scope.names [] (λ_ _ q=>by simp at q);have stat:∀ {Hx:Hp},(∀ b∈fp,Hx b=none)→∀ b∈fp,Xk (ZY X scope N G2.objs.size s2 H2 fp) [] Hx b:=λhn b hb=>
  ⟨hn b hb,Nat.ne_of_lt (Nat.lt_of_lt_of_le (hlt b hb) hCle),λhm=>(List.mem_cons.mp (I2.stkSub b hm)).elim (f2 b hb).2.1 (f2 b hb).2.2.1,.inl hb,λx c e=>(f2 b hb).2.2.2.2.1 x c (sub x c e),λp hp=>nomatch hp⟩
 have loop:∀ s₃:Shared,s₃ = { s2 with heap:=h₁,toks:=s2.toks + ([]:List (Str×Value)).length }→
  codeAny (model X.prog X.w) X.A (.compLoop (.ListComp elt [⟨target,iter,[],0⟩] scope pos) 0 (.ref it) (.ref s2.heap.objs.size) (compEnvC scope (XR scope X.env) G2.objs.size X.env))
   (compPost (model X.prog X.w) X.A X.xe none (EP X pins σ Q) (.ref s2.heap.objs.size) G2.objs.size) s₃:=by
  rintro s₃ rfl;refine codeAny_loop rfl (λn s'=>∃ i ys τ Hx,Inv (ZY X scope N G2.objs.size s2 H2 fp) [] τ Hx s'∧tn i s'.heap∧(∀ b∈fp,Hx b=none)∧W i n ys τ Hx) (λn s3 hI=>?_) m0 ⟨0,[],_,_,IB,stB,fr0,w0⟩;obtain⟨i,ys,τ,H3,I3,st3,fr3,w3⟩:=hI;show wpAny _ _ ((compTurn (.ListComp elt [⟨target,iter,[],0⟩] scope pos) 0 (.ref it) (.ref s2.heap.objs.size) (compEnvC scope (XR scope X.env) G2.objs.size X.env)).onRaise (λx=>do noteFrame x (compEnvC scope (XR scope X.env) G2.objs.size X.env);theTreesLotGoes x)) _ _ s3;refine wpAny_noted ?_;rw[compTurn_list1];refine wpAny_mono (E:=λ_ _=>False) ?_ (λ_ _ q=>q) λ_ _ z=>z.elim;refine wpAny_bind (wpAny_standAt (wpAny_bind ?_));obtain⟨hD3,sg⟩:=turn i n ys τ H3 w3
  rcases sg with⟨stop,qn⟩|⟨go,hys,Nx,hN,step⟩
  ·refine thn (T.done (ZY X scope N G2.objs.size s2 H2 fp) rfl rfl rfl hc i [] s3 τ H3 _ I3 (stat fr3) st3 stop) λr s4 zq=>?_;obtain⟨hr,I4⟩:=zq;subst hr;refine wpAny_pure ?_;obtain⟨m4,hn4,_⟩:=id I4.loc;exact⟨m4,hn4,λh' hs'=>⟨.ref s2.heap.objs.size,H3,I2.unblock f2 hCle I4 hs',rfl,qn⟩⟩
  ·refine thn (T.item (ZY X scope N G2.objs.size s2 H2 fp) rfl rfl rfl hc i [] s3 τ H3 _ I3 (stat fr3) st3 go) λr s4 zq=>?_;obtain⟨u,hr,h4⟩:=zq;subst hr;refine wpAny_bind (thn h4 λ_ s5 zq=>?_);obtain⟨x,H5,I5,r5,y5,st5,fr5⟩:=zq;have I5':=I5.pinned (stat fr5) (T.obj _ _ st5);refine wpAny_bind (thn (hg _ _ _ _ _ s5 τ H5 x u _ I5' r5 (step x H5 y5)) λ_ s6 zq=>?_);obtain⟨τ6,H6,I6,q6⟩:=zq;refine wpAny_bind (wpAny_bind (thn (he _ _ _ _ _ s6 τ6 H6 _ I6 q6) λyv s7 zq=>?_));obtain⟨y,H7,I7,r7,hD7,n7⟩:=zq;obtain⟨m',hm',w7⟩:=hN _ _ _ n7;refine wpAny_bind (thn (Jn _ s7 τ6 H7 (.ref s2.heap.objs.size) [y] (.ref s2.heap.objs.size) [yv] (λ_ Hz=>Hz=upd H7 s2.heap.objs.size (.lst (ys++[y]))) I7 rfl (.cons r7 .nil) ⟨_,_,_,rfl,rfl,hD7,hys,rfl⟩) λ_ s8 zq=>?_);obtain⟨_,H8,I8,_,e8⟩:=zq;subst e8;refine wpAny_pure (wpAny_pure ⟨rfl,m',hm',i + 1,_,τ6,_,I8.unpinned,T.keep _ _ _ st5 λb hb o e=>(I8.pin (b,o) (List.mem_append_right _ (List.mem_append_right _ (ZZ hb e)))).1,λb hb=>?_,w7⟩);obtain⟨o,e,d⟩:=T.obj _ _ st5 b hb;exact (I8.pin (b,o) (List.mem_append_right _ (List.mem_append_right _ (ZZ hb e)))).2.1
 exact codeAny_compStart_list (loop _ rfl) (T.self _ 0 _ _ _ stB (loop _ rfl))
theorem JL {J:It}{g:TG}{te:TE}{Q:VK}{τ0:St}{D:Addr}{H1:Hp}(n:Nat)(Pv:Nat→List V→St→Hp→Prop)(h0:Pv 0 [] τ0 (upd H1 D (.lst [])))
 (hD:∀ i ys τ H,i≤n→Pv i ys τ H→H D=some (.lst ys))
 (hs:∀ i ys τ H,i < n→Pv i ys τ H→J.go i H∧ys.length < sizeLine∧∀ x H3,J.yld i H x H3→g x τ H3 λτ4 H4=>te τ4 H4 λy H5=>H5 D=some (.lst ys)∧Pv (i + 1) (ys++[y]) τ4 (upd H5 D (.lst (ys++[y]))))
 (hd:∀ ys τ H,Pv n ys τ H→J.stop n H∧Q (.ref D) H) :
 LC J D τ0 H1 g te Q:=by
 refine⟨λi m ys τ H=>m=n - i∧i≤n∧Pv i ys τ H,⟨n,by simp,Nat.zero_le _,h0⟩,?_⟩;rintro i m ys τ H ⟨rfl,hi,p⟩;refine⟨hD i ys τ H hi p,?_⟩
 by_cases hlt:i < n
 ·obtain⟨h1,h2,h3⟩:=hs i ys τ H hlt p;exact .inr ⟨h1,h2,Pv (i + 1),λzs τ' H' q=>⟨n - (i + 1),by omega,rfl,hlt,q⟩,h3⟩
 ·have e:i=n:=by omega
  subst e;exact .inl (hd ys τ H p)
section
variable {X:Cx}{pins:List (Addr×Obj)}{σ:St}{H:Hp}{s:Shared}{h':Heap}
theorem Inv.turnedN {t':Nat}{ch:List Addr}(I:Inv X pins σ H s)(k:∀ b o,b ∉ ch→s.heap.get? b=some o→h'.get? b=some o)(hf:∀ b∈ch,Xk X pins H b):Inv X pins σ H { s with heap:=h',toks:=t' }:=by
 have nit:∀ b u,H b=some u→b ∉ ch:=λb u e z=>by rw[(hf b z).1] at e;cases e
 refine I.step (g':=s.gens) (d':=s.drawn) (ch:=ch) (λb hb=>?_) (λb o _ _ hc e _=>k b o hc e) (λb o _ _ hc e _=>⟨o.slots,k b o hc e⟩) (λ_ _ _ _ n=>n)
  (λb o hc e=>⟨o,k b o hc e⟩) (λ_ _ e=>e) (λ_ _ _ e=>e) (λb ps e=>⟨#[],by rw[e];simp⟩) (λm hm=>?_) (λb u e=>?_) I.bare
 ·obtain⟨_,h2,h3,h4,h5,h6⟩:=hf b hb;exact⟨h4,h2,h5,h6⟩
 ·obtain⟨o,es,ep,ho,r⟩:=hm;exact⟨o,es,ep,k _ o (λz=>(hf _ z).2.1 rfl) ho,r⟩
 ·refine (I.hok b u e).stay (λc v hc q=>k c v ?_ q) (λ_ q=>q) λ_ _ q=>q
  rcases hc with z|z
  ·rw[z];exact nit b u e
  ·exact nit c _ z
theorem Inv.turnedLaid {t':Nat}{ch:List Addr}{a:Addr}{o:HO}(I:Inv X pins σ H s)(k:∀ b o,b ∉ ch→s.heap.get? b=some o→h'.get? b=some o)(hf:∀ b∈ch,Xk X pins H b)(hlt:∀ b∈ch,b < s.heap.objs.size)
 (hp:s.heap.objs.size≤a) (new:ObjOk X.prog X.w (upd H a o) h' a o):Inv X pins σ (upd H a o) { s with heap:=h',toks:=t' }:=by
 have hn:H a=none:=I.hok.fresh hp;have nit:∀ b u,H b=some u→b ∉ ch:=λb u e z=>by rw[(hf b z).1] at e;cases e
 refine I.step (g':=s.gens) (d':=s.drawn) (ch:=ch) (λb hb=>?_) (λb o _ _ hc e _=>k b o hc e) (λb o _ _ hc e _=>⟨o.slots,k b o hc e⟩) (λb o _ e n=>by rw[Z2 (Nat.ne_of_lt (Nat.lt_of_lt_of_le (Heap.lt_size e) hp))];exact n)
  (λb o hc e=>⟨o,k b o hc e⟩) (λb xs e=>by rw[Z2 (Z6 e hn)];exact e) (λb o u e=>by rw[Z2 (Z6 e hn)];exact e) (λb ps e=>⟨#[],by rw[Z2 (Z6 e hn),e];simp⟩) (λm hm=>?_) (λb u e=>?_) I.bare
 ·obtain⟨_,h2,h3,h4,h5,h6⟩:=hf b hb;exact⟨h4,h2,h5,h6⟩
 ·obtain⟨o,es,ep,ho,r⟩:=hm;exact⟨o,es,ep,k _ o (λz=>(hf _ z).2.1 rfl) ho,r⟩
 ·by_cases hb:b=a
  ·subst hb;rw[Z1] at e;cases e;exact new
  ·rw[Z2 hb] at e;refine (I.hok b u e).stay (λc v hc q=>k c v ?_ q) (λc q=>by rw[Z2 (Z6 q hn)];exact q) λc xs q=>by rw[Z2 (Z6 q hn)];exact q
   rcases hc with z|z
   ·rw[z];exact nit b u e
   ·exact nit c _ z
end
section
variable {X:Cx}{elts:List Expr}{k:Nat}{tpos:Pos}
end
theorem boot_all:bootBuiltins "all" = some (.builtin "all"):=by decide +kernel
theorem boot_isinstance:bootBuiltins "isinstance" = some (.builtin "isinstance"):=by decide +kernel
section
variable {X:Cx}
theorem Z3z:∀ {bs:List Bool}{us:List Value}{i:Nat}{v:Value},Vals (bs.map V.bl) us→us[i]? = some v→∃ b,bs[i]? = some b∧v=.bool b
 | [],_,_,_,.nil,e=>by simp at e
 | b::bs,_,0,_,.cons r _,e=>by simp at e;subst e;exact⟨b,rfl,r⟩
 | b::bs,_,i + 1,v,.cons _ t,e=>by
   obtain⟨c,h1,h2⟩:=Z3z (i:=i) (v:=v) t (by simpa using e);exact⟨c,by simpa using h1,h2⟩
theorem Z5m (bs:List Bool):((List.range bs.length).all λi=>(bs[i]?).getD true)=bs.all id:=by
 rw[Bool.eq_iff_iff,List.all_eq_true,List.all_eq_true];constructor
 ·intro h b hb;obtain⟨i,hi,e⟩:=List.getElem_of_mem hb;have:=h i (List.mem_range.mpr hi);simp only[List.getElem?_eq_getElem hi,Option.getD_some,e] at this;exact this
 ·intro h i hi;have hi':=List.mem_range.mp hi;simp only[List.getElem?_eq_getElem hi',Option.getD_some];exact h _ (List.getElem_mem hi')
theorem Z5R (hc:X.calm=true):YA X (.builtin "all") (λxs H Q=>∃ (a:Addr) (bs:List Bool),xs=[.ref a]∧SqL X.K H a (bs.map V.bl)∧Q (.bl (bs.all id)) H):=by
 intro pins s σ H xs us Q I r h;obtain⟨a,bs,rfl,hq,q⟩:=h;obtain⟨u,rfl,rx⟩:=Xc r;cases rx;obtain⟨its,rv,p,hz⟩:=I.list hq;have hlt:a < s.heap.objs.size:=by obtain⟨_,_,e,_⟩:=p;exact Heap.lt_size e
 have hlen:=rv.length;rw[List.length_map] at hlen;refine call_all_walk (wpAny_pyIter_list (A:=X.A.in1) p.isList ?_);refine⟨s.heap.objs.size,[s.heap.objs.size,a],[s.heap.objs.size],its.toArray.size,_,_,λi=>(bs[i]?).getD true,rfl,Walks.list (A:=X.A.in1) (I.ok.hd hc) _ a (Nat.ne_of_lt hlt) its.toArray,
  ⟨⟨_,Heap.get?_push_size _ rfl,rfl,rfl⟩,p.isList.push _⟩,λi v s' Q' E' hP hQ=>?_,λh' tk hk=>?_⟩
 ·obtain⟨b,e,rfl⟩:=Z3z rv (by simpa using hP);simp only[e,Option.getD_some] at hQ;exact wpAny_truthy_bool hQ
 ·have e:((List.range its.toArray.size).all λi=>(bs[i]?).getD true)=bs.all id:=by
   rw[show its.toArray.size=bs.length by simp;omega];exact Z5m bs
  rw[e];refine⟨.bl (bs.all id),H,I.kept (h':=h') λb o eb=>?_,rfl,q⟩;exact hk b o (λhm=>by rw[List.mem_singleton.mp hm] at eb;exact Nat.lt_irrefl _ (Heap.lt_size eb)) (Heap.get?_push_of_some _ eb)
theorem Z8t {n:String}:∀ u,RelV (.ty n) u→u=.type n:=λ_ h=>h
theorem ZK {a:Addr}:∀ u,RelV (.ref a) u→u=.ref a:=λ_ h=>h
end
mutual
inductive Rep (H:Hp):V→PyData→Prop
 | non:Rep H .non .none
 | bl (b:Bool):Rep H (.bl b) (.bool b)
 | int (i:Int):Rep H (.int i) (.int i)
 | str (x:Str):Rep H (.str x) (.str x)
 | lst {a:Addr}{xs:List V}{ds:List PyData}:H a=some (.lst xs)→xs.length < sizeLine→Reps H xs ds→Rep H (.ref a) (.list ds)
 | tup {a:Addr}{xs:List V}{ds:List PyData}:H a=some (.tup xs)→xs.length < sizeLine→Reps H xs ds→Rep H (.ref a) (.tuple ds)
inductive Reps (H:Hp):List V→List PyData→Prop
 | nil:Reps H [] []
 | cons {v:V}{vs:List V}{d:PyData}{ds:List PyData}:Rep H v d→Reps H vs ds→Reps H (v::vs) (d::ds)
end
section
variable {X:Cx}{pins:List (Addr×Obj)}{σ:St}{H:Hp}{s:Shared}
mutual
theorem Inv.reads (I:Inv X pins σ H s):∀ {v:V}{d:PyData}{u:Value},Rep H v d→RelV v u→∃ as,Reads s.heap u d as
 | _,_,_,.non,r=>by cases r;exact⟨_,.none⟩
 | _,_,_,.bl b,r=>by cases r;exact⟨_,.bool b⟩
 | _,_,_,.int i,r=>by obtain⟨t,rfl⟩:=r;exact⟨_,.int i t⟩
 | _,_,_,.str x,r=>by obtain⟨t,rfl⟩:=r;exact⟨_,.str x t⟩
 | _,_,_,.lst (a:=a) (xs:=xs) h _ q,r=>by
   cases r;obtain⟨_,its,n,rv,e⟩:=(show ObjOk X.prog X.w H s.heap a (.lst xs) from I.hok a _ h);obtain⟨as,ra⟩:=I.readsAll q rv;exact⟨_,.list e rfl rfl (by simpa using ra)⟩
 | _,_,_,.tup (a:=a) (xs:=xs) h _ q,r=>by
   cases r;obtain⟨_,its,rv,o,e,c,n,dd⟩:=(show ObjOk X.prog X.w H s.heap a (.tup xs) from I.hok a _ h);obtain⟨as,ra⟩:=I.readsAll q rv;exact⟨_,.tuple e c dd (by simpa using ra)⟩
theorem Inv.readsAll (I:Inv X pins σ H s):∀ {vs:List V}{ds:List PyData}{us:List Value},Reps H vs ds→Vals vs us→∃ as,ReadsAll s.heap us ds as
 | _,_,_,.nil,.nil=>⟨_,.nil⟩
 | _,_,_,.cons h q,.cons r rr=>by
   obtain⟨as,ra⟩:=I.reads h r;obtain⟨bs,rb⟩:=I.readsAll q rr;exact⟨_,.cons ra rb⟩
end
theorem Z7B (hu:X.A.units + 64 < cLine):OpR X (compareOp .NotEq) (λx y H Q=>∃ d e,Rep H x d∧Rep H y e∧SeqAt.shaped d=true∧SeqAt.shaped e=true∧Q (.bl (!PyData.eqv d e)) H):=by
 intro pins s σ H x y v u Q I rx ry h;obtain⟨d,e,h1,h2,s1,s2,q⟩:=h;obtain⟨as,ra⟩:=I.reads h1 rx;obtain⟨bs,rb⟩:=I.reads h2 ry;exact ne_dataH ra rb s1 s2 hu ⟨.bl _,H,I,rfl,q⟩
end
noncomputable def Z7J (osc:Scope)(ON:List Str)(scope:Scope)(N:List Str)(fr:List (Option Nat)):Bool:=
 decide (scope.kind=.function) && decide N.Nodup && decide (fr.length=N.length) && scope.names.all (λp=>decide (p.2≠.cell)) &&
 scope.names.all (λp=>decide (p.2=.local→scope.names.lookup p.1=some .local)) &&
 scope.names.all (λp=>decide (p.2=.free→osc.names.lookup p.1=some .cell∨osc.names.lookup p.1=some .free)) &&
 (List.range N.length).all (λj=>match fr[j]? with
   | some (some i)=>decide (ON[i]? = N[j]?∧∃ x,N[j]? = some x∧scope.names.lookup x=some .free)
   | _=>true)
theorem Z10 {α:Type}:∀ {l:List (Str×α)}{x:Str}{a:α},l.lookup x=some a→(x,a)∈l
 | [],_,_,h=>by simp at h
 | (n,v)::r,x,a,h=>by
   rw[Xo] at h
   by_cases e:x=n
   ·rw[if_pos e] at h;cases h;rw[e];exact List.mem_cons_self
   ·rw[if_neg e] at h;exact List.mem_cons_of_mem _ (Z10 h)
theorem Z0e {env:Env}:∀ {ns:List (Str×NameKind)}{x:Str},ns.lookup x=some .free→
 (ns.map λ(n,k)=>if (k == NameKind.free && env.scope.kind == .function && env.kindOf n == some .cell) then (n,NameKind.cell) else (n,k)).lookup x=some .cell∨
 (ns.map λ(n,k)=>if (k == NameKind.free && env.scope.kind == .function && env.kindOf n == some .cell) then (n,NameKind.cell) else (n,k)).lookup x=some .free
 | [],_,h=>by simp at h
 | (n,q)::r,x,h=>by
   have ih:=@Z0e env r x;rw[Xo] at h;show List.lookup x ((if (q == NameKind.free && env.scope.kind == .function && env.kindOf n == some .cell)=true then (n,NameKind.cell) else (n,q))::_)=_∨List.lookup x ((if (q == NameKind.free && env.scope.kind == .function && env.kindOf n == some .cell)=true then (n,NameKind.cell) else (n,q))::_)=_
   by_cases c:(q == NameKind.free && env.scope.kind == .function && env.kindOf n == some .cell)=true
   ·rw[if_pos c,Xo]
    by_cases e:x=n
    ·rw[if_pos e];exact .inl rfl
    ·rw[if_neg e] at h ⊢;exact ih h
   ·rw[if_neg c,Xo]
    by_cases e:x=n
    ·rw[if_pos e] at h ⊢;exact .inr h
    ·rw[if_neg e] at h ⊢;exact ih h
theorem XN {X:Cx}{osc:Scope}{ON:List Str}{scope:Scope}{N:List Str}{fr:List (Option Nat)}(h:Z7J osc ON scope N fr=true)(hsc:X.env.scope=osc)(hN:X.N=ON):BlkOk X scope N fr:=by
 unfold Z7J at h;simp only[Bool.and_eq_true,decide_eq_true_eq,List.all_eq_true] at h;obtain⟨⟨⟨⟨⟨⟨h1,h2⟩,h3⟩,h4⟩,h5⟩,h6⟩,h7⟩:=h;refine⟨h1,h2,h3,h4,h5,λp hp e=>?_,λj i x e1 e2=>?_⟩
 ·unfold Env.kindOf;rw[hsc];exact h6 p hp e
 ·have hj:j < N.length:=(List.getElem?_eq_some_iff.mp e1).1;have q:=h7 j (List.mem_range.mpr hj);rw[e2] at q;simp only[decide_eq_true_eq] at q;obtain⟨q1,y,q2,q3⟩:=q;rw[e1] at q1 q2;cases q2;rw[hN];exact⟨q1,Z10 q3,Z0e q3⟩
section
variable {σ:St}{H H1:Hp}{Q:VK}{D:Ends}{i j k:Int}{v x y:V}{ta tb te:TE}{tt tu:TT}{t u:TS}{n:Nat}{b:Bool}
theorem rd_var (h:σ[n]? = some (some v))(q:Q v H):Z0C n σ H Q:=⟨v,h,q⟩
theorem rd_c (q:Q v H):tC v σ H Q:=q
theorem rd_op {r:R2}(q:ta σ H λx H1=>tb σ H1 λy H2=>r x y H2 Q):tOp r ta tb σ H Q:=q
theorem rd_un {r:V→Hp→VK→Prop}(q:ta σ H λx H1=>r x H1 Q):tUn r ta σ H Q:=q
theorem rd_I0 {g:Int→Int→V}(q:Q (g i j) H):rI0 g (.int i) (.int j) H Q:=⟨i,j,rfl,rfl,q⟩
theorem rd_I {C:Int→Int→Prop}{g:Int→Int→V}(c:C i j)(q:Q (g i j) H):rI C g (.int i) (.int j) H Q:=⟨i,j,rfl,rfl,c,q⟩
theorem rd_U {g:Int→V}(q:Q (g i) H):rU g (.int i) H Q:=⟨i,rfl,q⟩
theorem Z2a:decide (V.int i=V.int j)=decide (i=j):=by
 by_cases h:i=j<;>simp[h]
theorem rd_eqI (q:Q (.bl (decide (i=j))) H):rEq (.int i) (.int j) H Q:=⟨rfl,(congrArg (λz=>Q (.bl z) H) Z2a).mpr q⟩
theorem rd_neI (q:Q (.bl (!decide (i=j))) H):rNe (.int i) (.int j) H Q:=⟨rfl,(congrArg (λz=>Q (.bl (!z)) H) Z2a).mpr q⟩
theorem rd_test (q:te σ H λx H'=>∃ k,x=.bl k∧Qb k H'):Z3J te σ H Qb:=q
theorem rd_bl {R:Bool→Prop}(q:R b):∃ k,V.bl b=.bl k∧R k:=⟨b,rfl,q⟩
theorem rd_tB {Qb:Bool→Hp→Prop}(q:te σ H λx H'=>∃ k,x=.bl k∧Qb k H'):tB te σ H Qb:=q
theorem rd_seq (q:t { D with nx:=u D } σ H):Z2c t u D σ H:=q
theorem rd_next (q:D.nx σ H):Z0i D σ H:=q
theorem rd_asg {g:TG}(q:te σ H λx H1=>g x σ H1 D.nx):Z1u te g D σ H:=q
theorem rd_gname {Qs:St→Hp→Prop}(q:Qs (σ.set n (some v)) H):XF n v σ H Qs:=q
theorem rd_drop (q:te σ H λ_ H1=>D.nx σ H1):Z6I te D σ H:=q
theorem rd_ret (q:te σ H D.rt):Z3I te D σ H:=q
theorem rd_if (q:tt σ H λb H1=>if b=true then t D σ H1 else u D σ H1):Z62 tt t u D σ H:=q
theorem rd_or {Qb:Bool→Hp→Prop}(q:tt σ H λc H1=>if c=true then Qb true H1 else tu σ H1 Qb):tOr tt tu σ H Qb:=q
theorem rd_not {Qb:Bool→Hp→Prop}(q:tt σ H λc H1=>Qb (!c) H1):Z6b tt σ H Qb:=q
theorem rd_andV (q:ta σ H λx H1=>∃ c,x=.bl c∧if c=true then tb σ H1 Q else Q (.bl false) H1):Z6F ta tb σ H Q:=q
theorem rd_nil {Qa:List V→Hp→Prop}(q:Qa [] H):Z0b σ H Qa:=q
theorem rd_cons {tr:TA}{Qa:List V→Hp→Prop}(q:te σ H λx H1=>tr σ H1 λxs H2=>Qa (x::xs) H2):Jp te tr σ H Qa:=q
theorem rd_call {sp:Sp}{dvs:List V}{E:XK}{tr:TA}(q:tr σ H λvs H1=>sp (vs++dvs) H1 Q E):Z1Z sp dvs E tr σ H Q:=q
theorem rd_cb {r:List V→Hp→VK→Prop}{tr:TA}(q:tr σ H λvs H1=>r vs H1 Q):tCB r tr σ H Q:=q
theorem rd_lst {tr:TA}(q:tr σ H λxs H1=>xs.length≤sizeLine∧∀ p,H1 p=none→Q (.ref p) (upd H1 p (.lst xs))):Z4i tr σ H Q:=q
theorem rd_tup {tr:TA}(q:tr σ H λxs H1=>xs.length≤sizeLine∧∀ p,H1 p=none→Q (.ref p) (upd H1 p (.tup xs))):Z7C tr σ H Q:=q
theorem rd_chain {r r':R2}{tc:TE}(q:ta σ H λx H1=>tb σ H1 λy H2=>r x y H2 λz H3=>∃ k,z=.bl k∧(if k=true then tc σ H3 λw' H4=>r' y w' H4 Q else Q (.bl false) H3)):Z2b r r' ta tb tc σ H Q:=q
theorem rd_bm {K:W.Frag}{T:String}{r:V→List V→Hp→VK→Prop}{tr:TA}(q:te σ H λx H1=>tyV K T x H1∧tr σ H1 λxs H2=>r x xs H2 Q):tBM K T r te tr σ H Q:=q
theorem rd_gsub {to ti:TE}{ts:Z3X}{Qs:St→Hp→Prop}(q:to σ H λo H1=>ti σ H1 λi H2=>ts o i v H2 λH3=>Qs σ H3):Z8e to ti ts v σ H Qs:=q
theorem Zx {K:W.Frag}{p:Addr}{xs:List V}(h:SqL K H p xs)(hv:atI xs i=some v)(q:Q v H):Z5O K (.ref p) (.int i) H Q:=⟨p,xs,i,v,rfl,rfl,h,hv,q⟩
theorem Z0k {p:Addr}{xs:List V}{jn:Nat}{Qh:Hp→Prop}(h:H p=some (.lst xs))(hj:ixN xs.length i=some jn)(q:Qh (upd H p (.lst (xs.set jn v)))):Z6L (.ref p) (.int i) v H Qh:=⟨p,xs,i,jn,rfl,rfl,h,hj,q⟩
theorem Z7I {p:Addr}{xs:List V}(h:H p=some (.lst xs))(z:xs.length < sizeLine)(q:Q .non (upd H p (.lst (xs++[y])))):Z3A (.ref p) [y] H Q:=⟨p,xs,y,rfl,rfl,h,z,q⟩
end
theorem Xj {X:Cx}{x:Str}{i:Int}{pos:Pos}(hg:Gl X x)(hm:∃ t,X.mg x=some (.int i t))(hd:(x == ("__debug__" : Str))=false:=by decide):PE X (.Name x pos) (tC (.int i)):=by
 obtain⟨t,ht⟩:=hm;exact Zy hg ht ⟨t,rfl⟩ hd
theorem boot_list:bootBuiltins "list" = some (.type "list"):=by decide +kernel
theorem boot_max:bootBuiltins "max" = some (.builtin "max"):=by decide +kernel
noncomputable def Keep (b:Addr)(H H':Hp):Prop:=∀ c o,H c=some o→c≠b→H' c=some o
theorem Keep.trans {b:Addr}{H H1 H2:Hp}(a:Keep b H H1)(c:Keep b H1 H2):Keep b H H2:=λd o h n=>c d o (a d o h n) n
theorem Keep.new {b:Addr}{H:Hp}{p:Addr}{o:HO}(h:H p=none):Keep b H (upd H p o):=λc u q _=>by rw[Z2 (Z6 q h)];exact q
theorem Keep.set {b:Addr}{H:Hp}{o:HO}:Keep b H (upd H b o):=λc u q n=>by rw[Z2 n];exact q
theorem Same.new {H:Hp}{p:Addr}(h:H p=none)(o:HO):Same H (upd H p o):=λb u q=>by rw[Z2 (Z6 q h)];exact q
theorem ZC {n:Nat}(h:n≤1000):n≤sizeLine:=Nat.le_of_lt (Z1K h)
theorem ZR {n:Nat}(h:n≤1000):n < sizeLine:=Z1K h
theorem Z8p {A:Around}{k:Nat}(hr:Room k A):A.units + 64 < cLine:=by have:=hr.un;omega
end L2
namespace L2
theorem Zt {c A B:Prop}[Decidable c](h:¬ c)(q:B):if c then A else B:=by
 rw[if_neg h];exact q
theorem Y1 {c A B:Prop}[Decidable c](h:c)(q:A):if c then A else B:=by
 rw[if_pos h];exact q
end L2
namespace L2
open PySem PySem.Spec PyProof.Rows
section
variable {X:Cx}{K:W.Frag}
theorem ixL (hK:X.K=K):IxR X (Z5O K):=hK▸Z7d
theorem ixT (hK:X.K=K):IxR X (Z66 K):=hK▸Z7H
theorem Z05 (hK:X.K=K):YA X (.builtin "len") (λxs H Q=>∃ p ys,xs=[.ref p]∧(SqL K H p ys∨SqT K H p ys)∧Q (.int ys.length) H):=hK▸Z2T
theorem Z6K (hK:X.K=K):YA X (.type "list") (λxs H Q=>∃ p ys,xs=[.ref p]∧(SqL K H p ys∨SqT K H p ys)∧∀ l,H l=none→Q (.ref l) (upd H l (.lst ys))):=hK▸Z2q
theorem Z8Q (hK:X.K=K)(hc:X.calm=true):YA X (.builtin "all") (λxs H Q=>∃ (a:Addr) (bs:List Bool),xs=[.ref a]∧SqL K H a (bs.map V.bl)∧Q (.bl (bs.all id)) H):=hK▸Z5R hc
theorem inS (hK:X.K=K):OpR X (compareOp .In) (rIn K false):=hK▸Z4J
theorem Z59 (hK:X.K=K):OpR X (compareOp .NotIn) (rIn K true):=hK▸Z2y
theorem piL {tg l:Expr}{tl:TE}(hK:X.K=K)(hl:PE X l tl):PI X tg l (Z6D K tl):=hK▸Z7f hl
theorem pgT {pos:Pos}{es:List Expr}{k:Nat}{t:TGs}{n:Nat}(hK:X.K=K)(hc:X.calm=true)(h:PGs X es t)(hn:(assignEach es X.env).length=n:=by rfl)(hst:(assignEach es X.env).findIdx? (·.1)=none:=by rfl):PG X (.Tuple es k pos) (Z6m K n t):=hK▸Z7Z hc h hn hst
end
end L2
namespace Wg
end Wg
namespace Wg
open PySem
end Wg
namespace L2
open PySem PySem.Spec PyProof.Rows
section
variable {X:Cx}
end
section
variable {X:Cx}
end
section
variable {X:Cx}
end
noncomputable def LCi (J:It)(D:Addr)(τ0:St)(H1:Hp)(g:TG)(tc:TT)(te:TE)(Q:VK):Prop:=∃ W:Nat→Nat→List V→St→Hp→Prop,
 (∃ m,W 0 m [] τ0 (upd H1 D (.lst [])))∧∀ i m ys τ H2,W i m ys τ H2→H2 D=some (.lst ys)∧
   ((J.stop i H2∧Q (.ref D) H2)∨(J.go i H2∧ys.length < sizeLine∧∃ N:List V→St→Hp→Prop,(∀ zs τ' H',N zs τ' H'→∃ m',m' < m∧W (i + 1) m' zs τ' H')∧∀ x H3,J.yld i H2 x H3→g x τ H3 λτ4 H4=>tc τ4 H4 λok H5=>if ok=true then te τ4 H5 (λy H6=>H6 D=some (.lst ys)∧N (ys++[y]) τ4 (upd H6 D (.lst (ys++[y])))) else N ys τ4 H5))
noncomputable def Z8P (fr:List (Option Nat))(wi:TI)(g:TG)(tc:TT)(te:TE):TE:=λσ H Q=>wi σ H λJ H1=>∀ D,H1 D=none→LCi J D (blk fr σ) H1 g tc te Q
theorem Z4D {X:Cx}{elt target iter cnd:Expr}{scope:Scope}{pos:Pos}{N:List Str}{fr:List (Option Nat)}{wi:TI}{g:TG}{tc:TT}{te:TE}(hc:X.calm=true)(B:BlkOk X scope N fr)(hi:PI X target iter wi)
 (hg:∀ C s H fp,PG (ZY X scope N C s H fp) target g) (ht:∀ C s H fp,PT (ZY X scope N C s H fp) cnd tc) (he:∀ C s H fp,PE (ZY X scope N C s H fp) elt te)
 (hs:∀ x,foldedSetIterable iter X.env x=pure x:=by intro _;rfl):PE X (.ListComp elt [⟨target,iter,[cnd],0⟩] scope pos) (Z8P fr wi g tc te):=by
 intro pins s σ H Q I h;rw[eval_ListComp];refine wpAny_comprehension_free (use:=none) (g:=⟨target,iter,[cnd],0⟩) (gs:=[]) rfl hs (XV λp hp hk=>I.ok.has p.1 (B.free p hp hk)) B.kind B.loc (thn (hi pins s σ H _ I h) λv s1 h1=>thn h1 λitv s2 h2=>?_);obtain⟨it,fp,tn,J,H2,e,I2,T,st2,f2,rd⟩:=h2;subst e;obtain⟨W,⟨m0,w0⟩,turn⟩:=rd s2.heap.objs.size (I2.hok.fresh (Nat.le_refl _));refine wpAny_newObj_type (hd:=by size_fits) (wpAny_newFunctionEnv B.nocell (by intro y hy;simp at hy) (λh₁ hns₁ hsb₁=>?_) B.kind);dsimp only at hns₁ hsb₁ ⊢;generalize hH2:s2.heap.push { cls:=.type "list",dict:=none,data:=.seq ([]:List Value).toArray }=G2 at hns₁ hsb₁ ⊢;have hC:G2.objs.size=s2.heap.objs.size + 1:=by rw[←hH2,Heap.size_push]
 have hDC:s2.heap.objs.size≠G2.objs.size:=by rw[hC];exact Nat.ne_of_lt (Nat.lt_succ_self _)
 have hCle:s2.heap.objs.size≤G2.objs.size:=by rw[hC];exact Nat.le_succ _
 have old:∀ b o,s2.heap.get? b=some o→h₁.get? b=some o:=λb o e=>hsb₁.extBut b o (by rw[hC];exact Nat.ne_of_lt (Nat.lt_succ_of_lt (Heap.lt_size e))) (Heap.get?_push_of_some _ (hH2▸Heap.get?_push_of_some _ e));have hacc:h₁.get? s2.heap.objs.size=some { cls:=.type "list",data:=.seq #[] 0 }:=hsb₁.extBut _ _ hDC (Heap.get?_push_of_some _ (hH2▸Heap.get?_push_size _ rfl));have hlt:∀ b∈fp,b < s2.heap.objs.size:=λb hb=>by
  obtain⟨o,ho,_⟩:=T.obj 0 _ st2 b hb;exact Heap.lt_size ho
 have IB:=I2.block (t':=s2.toks + ([]:List (Str×Value)).length) B f2 hlt (Nat.le_refl _) hCle hDC old hns₁ hacc;have stB:tn 0 h₁:=T.keep 0 _ _ st2 λb _ o e=>old b o e;have fr0:∀ b∈fp,upd H2 s2.heap.objs.size (.lst []) b=none:=λb hb=>by
  rw[Z2 (Nat.ne_of_lt (hlt b hb))];exact (f2 b hb).1
 have sub:=Xg (env:=X.env) scope.names [] (λ_ _ q=>by simp at q);have stat:∀ {Hx:Hp},(∀ b∈fp,Hx b=none)→∀ b∈fp,Xk (ZY X scope N G2.objs.size s2 H2 fp) [] Hx b:=λhn b hb=>
  ⟨hn b hb,Nat.ne_of_lt (Nat.lt_of_lt_of_le (hlt b hb) hCle),λhm=>(List.mem_cons.mp (I2.stkSub b hm)).elim (f2 b hb).2.1 (f2 b hb).2.2.1,.inl hb,λx c e=>(f2 b hb).2.2.2.2.1 x c (sub x c e),λp hp=>nomatch hp⟩
 have loop:∀ s₃:Shared,s₃ = { s2 with heap:=h₁,toks:=s2.toks + ([]:List (Str×Value)).length }→
  codeAny (model X.prog X.w) X.A (.compLoop (.ListComp elt [⟨target,iter,[cnd],0⟩] scope pos) 0 (.ref it) (.ref s2.heap.objs.size) (compEnvC scope (XR scope X.env) G2.objs.size X.env))
   (compPost (model X.prog X.w) X.A X.xe none (EP X pins σ Q) (.ref s2.heap.objs.size) G2.objs.size) s₃:=by
  rintro s₃ rfl;refine codeAny_loop rfl (λn s'=>∃ i ys τ Hx,Inv (ZY X scope N G2.objs.size s2 H2 fp) [] τ Hx s'∧tn i s'.heap∧(∀ b∈fp,Hx b=none)∧W i n ys τ Hx) (λn s3 hI=>?_) m0 ⟨0,[],_,_,IB,stB,fr0,w0⟩;obtain⟨i,ys,τ,H3,I3,st3,fr3,w3⟩:=hI;show wpAny _ _ ((compTurn (.ListComp elt [⟨target,iter,[cnd],0⟩] scope pos) 0 (.ref it) (.ref s2.heap.objs.size) (compEnvC scope (XR scope X.env) G2.objs.size X.env)).onRaise (λx=>do noteFrame x (compEnvC scope (XR scope X.env) G2.objs.size X.env);theTreesLotGoes x)) _ _ s3;refine wpAny_noted ?_;rw[compTurn_list];refine wpAny_mono (E:=λ_ _=>False) ?_ (λ_ _ q=>q) λ_ _ z=>z.elim;refine wpAny_bind (wpAny_standAt (wpAny_bind ?_));obtain⟨hD3,sg⟩:=turn i n ys τ H3 w3
  rcases sg with⟨stop,qn⟩|⟨go,hys,Nx,hN,step⟩
  ·refine thn (T.done (ZY X scope N G2.objs.size s2 H2 fp) rfl rfl rfl hc i [] s3 τ H3 _ I3 (stat fr3) st3 stop) λr s4 zq=>?_;obtain⟨hr,I4⟩:=zq;subst hr;refine wpAny_pure ?_;obtain⟨m4,hn4,_⟩:=id I4.loc;exact⟨m4,hn4,λh' hs'=>⟨.ref s2.heap.objs.size,H3,I2.unblock f2 hCle I4 hs',rfl,qn⟩⟩
  ·refine thn (T.item (ZY X scope N G2.objs.size s2 H2 fp) rfl rfl rfl hc i [] s3 τ H3 _ I3 (stat fr3) st3 go) λr s4 zq=>?_;obtain⟨u,hr,h4⟩:=zq;subst hr;refine wpAny_bind (thn h4 λ_ s5 zq=>?_);obtain⟨x,H5,I5,r5,y5,st5,fr5⟩:=zq;have I5':=I5.pinned (stat fr5) (T.obj _ _ st5);refine wpAny_bind (thn (hg _ _ _ _ _ s5 τ H5 x u _ I5' r5 (step x H5 y5)) λ_ s6 zq=>?_);obtain⟨τ6,H6,I6,q6⟩:=zq;refine wpAny_bind (wpAny_tests_one (thn (ht _ _ _ _ _ s6 τ6 H6 _ I6 q6) λok s6' zq=>?_));obtain⟨H6',I6',q6'⟩:=zq;cases ok with
   | false=>
     obtain⟨m',hm',w7⟩:=hN _ _ _ q6';refine wpAny_pure ⟨rfl,m',hm',i + 1,_,τ6,_,I6'.unpinned,T.keep _ _ _ st5 λb hb o e=>(I6'.pin (b,o) (List.mem_append_right _ (List.mem_append_right _ (ZZ hb e)))).1,λb hb=>?_,w7⟩;obtain⟨o,e,d⟩:=T.obj _ _ st5 b hb;exact (I6'.pin (b,o) (List.mem_append_right _ (List.mem_append_right _ (ZZ hb e)))).2.1
   | true=>
     refine wpAny_bind (wpAny_bind (thn (he _ _ _ _ _ s6' τ6 H6' _ I6' q6') λyv s7 zq=>?_));obtain⟨y,H7,I7,r7,hD7,n7⟩:=zq;obtain⟨m',hm',w7⟩:=hN _ _ _ n7;refine wpAny_bind (thn (Jn _ s7 τ6 H7 (.ref s2.heap.objs.size) [y] (.ref s2.heap.objs.size) [yv] (λ_ Hz=>Hz=upd H7 s2.heap.objs.size (.lst (ys++[y]))) I7 rfl (.cons r7 .nil) ⟨_,_,_,rfl,rfl,hD7,hys,rfl⟩) λ_ s8 zq=>?_);obtain⟨_,H8,I8,_,e8⟩:=zq;subst e8;refine wpAny_pure (wpAny_pure ⟨rfl,m',hm',i + 1,_,τ6,_,I8.unpinned,T.keep _ _ _ st5 λb hb o e=>(I8.pin (b,o) (List.mem_append_right _ (List.mem_append_right _ (ZZ hb e)))).1,λb hb=>?_,w7⟩);obtain⟨o,e,d⟩:=T.obj _ _ st5 b hb;exact (I8.pin (b,o) (List.mem_append_right _ (List.mem_append_right _ (ZZ hb e)))).2.1
 exact codeAny_compStart_list (loop _ rfl) (T.self _ 0 _ _ _ stB (loop _ rfl))
theorem Z8o {J:It}{g:TG}{tc:TT}{te:TE}{Q:VK}{τ0:St}{D:Addr}{H1:Hp}(n:Nat)(Pv:Nat→List V→St→Hp→Prop)(h0:Pv 0 [] τ0 (upd H1 D (.lst [])))
 (hD:∀ i ys τ H,i≤n→Pv i ys τ H→H D=some (.lst ys))
 (hs:∀ i ys τ H,i < n→Pv i ys τ H→J.go i H∧ys.length < sizeLine∧∀ x H3,J.yld i H x H3→g x τ H3 λτ4 H4=>tc τ4 H4 λok H5=>if ok=true then te τ4 H5 (λy H6=>H6 D=some (.lst ys)∧Pv (i + 1) (ys++[y]) τ4 (upd H6 D (.lst (ys++[y])))) else Pv (i + 1) ys τ4 H5)
 (hd:∀ ys τ H,Pv n ys τ H→J.stop n H∧Q (.ref D) H) :
 LCi J D τ0 H1 g tc te Q:=by
 refine⟨λi m ys τ H=>m=n - i∧i≤n∧Pv i ys τ H,⟨n,by simp,Nat.zero_le _,h0⟩,?_⟩;rintro i m ys τ H ⟨rfl,hi,p⟩;refine⟨hD i ys τ H hi p,?_⟩
 by_cases hlt:i < n
 ·obtain⟨h1,h2,h3⟩:=hs i ys τ H hlt p;exact .inr ⟨h1,h2,Pv (i + 1),λzs τ' H' q=>⟨n - (i + 1),by omega,rfl,hlt,q⟩,h3⟩
 ·have e:i=n:=by omega
  subst e;exact .inl (hd ys τ H p)
theorem Z7o {X:Cx}{elt target iter:Expr}{scope:Scope}{pos spos px:Pos}{xn:Str}{gx:TG}{N:List Str}{fr:List (Option Nat)}{wi:TI}{g:TG}{te:TE}(hc:X.calm=true)(B:BlkOk X scope N fr)(hi:PI X target iter wi)
 (hg:∀ C s H fp,PG (ZY X scope N C s H fp) target g) (he:∀ C s H fp,PE (ZY X scope N C s H fp) elt te) (hx:PG X (.Name xn px) gx) (hsw:swapsWith (.ListComp elt [⟨target,iter,[],0⟩] scope pos) (some (.Name xn px)) spos.line X.env=pure true:=by rfl)
 (hs:∀ x,foldedSetIterable iter X.env x=pure x:=by intro _;rfl):PS X (.Assign [.Name xn px] (.ListComp elt [⟨target,iter,[],0⟩] scope pos) spos) (Z1u (tLC fr wi g te) gx):=by
 intro pins s σ H DD I h;rw[exec_Assign_Name_used _ _ _ _ hsw];refine wpAny_bind (wpAny_standAt (wpAny_bind ?_));show wpAny _ X.A (do let _←comprehension (.ListComp elt [⟨target,iter,[],0⟩] scope pos) scope X.env _ (newList []) false (eval iter X.env) (some (assign (.Name xn px) X.env))) _ _ s;refine wpAny_bind (wpAny_mono (wpAny_comprehension_free (use:=some (assign (.Name xn px) X.env)) (Q:=λ_ s'=>SP X pins DD .next s') (g:=⟨target,iter,[],0⟩) (gs:=[]) rfl hs (XV λp hp hk=>I.ok.has p.1 (B.free p hp hk)) B.kind B.loc (thn (hi pins s σ H _ I h) λv s1 h1=>thn h1 λitv s2 h2=>?_)) (λ_ s' hq=>wpAny_pure (wpAny_pure hq)) λ_ _ e=>e);obtain⟨it,fp,tn,J,H2,e,I2,T,st2,f2,rd⟩:=h2;subst e;obtain⟨W,⟨m0,w0⟩,turn⟩:=rd s2.heap.objs.size (I2.hok.fresh (Nat.le_refl _));refine wpAny_newObj_type (hd:=by size_fits) (wpAny_newFunctionEnv B.nocell (by intro y hy;simp at hy) (λh₁ hns₁ hsb₁=>?_) B.kind);dsimp only at hns₁ hsb₁ ⊢;generalize hH2:s2.heap.push { cls:=.type "list",dict:=none,data:=.seq ([]:List Value).toArray }=G2 at hns₁ hsb₁ ⊢;have hC:G2.objs.size=s2.heap.objs.size + 1:=by rw[←hH2,Heap.size_push]
 have hDC:s2.heap.objs.size≠G2.objs.size:=by rw[hC];exact Nat.ne_of_lt (Nat.lt_succ_self _)
 have hCle:s2.heap.objs.size≤G2.objs.size:=by rw[hC];exact Nat.le_succ _
 have old:∀ b o,s2.heap.get? b=some o→h₁.get? b=some o:=λb o e=>hsb₁.extBut b o (by rw[hC];exact Nat.ne_of_lt (Nat.lt_succ_of_lt (Heap.lt_size e))) (Heap.get?_push_of_some _ (hH2▸Heap.get?_push_of_some _ e));have hacc:h₁.get? s2.heap.objs.size=some { cls:=.type "list",data:=.seq #[] 0 }:=hsb₁.extBut _ _ hDC (Heap.get?_push_of_some _ (hH2▸Heap.get?_push_size _ rfl));have hlt:∀ b∈fp,b < s2.heap.objs.size:=λb hb=>by
  obtain⟨o,ho,_⟩:=T.obj 0 _ st2 b hb;exact Heap.lt_size ho
 have IB:=I2.block (t':=s2.toks + ([]:List (Str×Value)).length) B f2 hlt (Nat.le_refl _) hCle hDC old hns₁ hacc;have stB:tn 0 h₁:=T.keep 0 _ _ st2 λb _ o e=>old b o e;have fr0:∀ b∈fp,upd H2 s2.heap.objs.size (.lst []) b=none:=λb hb=>by
  rw[Z2 (Nat.ne_of_lt (hlt b hb))];exact (f2 b hb).1
 have sub:=Xg (env:=X.env) scope.names [] (λ_ _ q=>by simp at q);have stat:∀ {Hx:Hp},(∀ b∈fp,Hx b=none)→∀ b∈fp,Xk (ZY X scope N G2.objs.size s2 H2 fp) [] Hx b:=λhn b hb=>
  ⟨hn b hb,Nat.ne_of_lt (Nat.lt_of_lt_of_le (hlt b hb) hCle),λhm=>(List.mem_cons.mp (I2.stkSub b hm)).elim (f2 b hb).2.1 (f2 b hb).2.2.1,.inl hb,λx c e=>(f2 b hb).2.2.2.2.1 x c (sub x c e),λp hp=>nomatch hp⟩
 have loop:∀ s₃:Shared,s₃ = { s2 with heap:=h₁,toks:=s2.toks + ([]:List (Str×Value)).length }→
  codeAny (model X.prog X.w) X.A (.compLoop (.ListComp elt [⟨target,iter,[],0⟩] scope pos) 0 (.ref it) (.ref s2.heap.objs.size) (compEnvC scope (XR scope X.env) G2.objs.size X.env))
   (compPost (model X.prog X.w) X.A X.xe (some (assign (.Name xn px) X.env)) (λ_ s'=>SP X pins DD .next s') (.ref s2.heap.objs.size) G2.objs.size) s₃:=by
  rintro s₃ rfl;refine codeAny_loop rfl (λn s'=>∃ i ys τ Hx,Inv (ZY X scope N G2.objs.size s2 H2 fp) [] τ Hx s'∧tn i s'.heap∧(∀ b∈fp,Hx b=none)∧W i n ys τ Hx) (λn s3 hI=>?_) m0 ⟨0,[],_,_,IB,stB,fr0,w0⟩;obtain⟨i,ys,τ,H3,I3,st3,fr3,w3⟩:=hI;show wpAny _ _ ((compTurn (.ListComp elt [⟨target,iter,[],0⟩] scope pos) 0 (.ref it) (.ref s2.heap.objs.size) (compEnvC scope (XR scope X.env) G2.objs.size X.env)).onRaise (λx=>do noteFrame x (compEnvC scope (XR scope X.env) G2.objs.size X.env);theTreesLotGoes x)) _ _ s3;refine wpAny_noted ?_;rw[compTurn_list1];refine wpAny_mono (E:=λ_ _=>False) ?_ (λ_ _ q=>q) λ_ _ z=>z.elim;refine wpAny_bind (wpAny_standAt (wpAny_bind ?_));obtain⟨hD3,sg⟩:=turn i n ys τ H3 w3
  rcases sg with⟨stop,qn⟩|⟨go,hys,Nx,hN,step⟩
  ·refine thn (T.done (ZY X scope N G2.objs.size s2 H2 fp) rfl rfl rfl hc i [] s3 τ H3 _ I3 (stat fr3) st3 stop) λr s4 zq=>?_;obtain⟨hr,I4⟩:=zq;subst hr;refine wpAny_pure ?_;obtain⟨m4,hn4,_⟩:=id I4.loc;have J:Inv X pins σ H3 s4:=I2.unblock (h':=s4.heap) f2 hCle I4 (Heap.SameBut.refl _ _);obtain⟨o4,es4,ep4,ho4,hd4,hk4⟩:=id hn4;have FC:Xk X pins H2 G2.objs.size:=I2.fpOk hCle (I2.hok.fresh hCle);have JP:Inv X (pins++[(G2.objs.size,o4)]) σ H3 s4:=J.pins_of λp hp=>(List.mem_append.mp hp).elim (λz=>J.pin p (List.mem_append_right _ z)) λz=>by
    have e:p=(G2.objs.size,o4):=by simpa using z
    subst e;exact⟨ho4,I4.free,FC.2.1,FC.2.2.1,λv e=>by rw[hd4] at e;cases e⟩
   show wpAny _ X.A (assign (.Name xn px) X.env (.ref s2.heap.objs.size)) _ _ s4;refine thn (hx _ s4 σ H3 (.ref s2.heap.objs.size) (.ref s2.heap.objs.size) _ JP rfl qn) λ_ s5 zq=>?_;obtain⟨σ5,H5,I5,q5⟩:=zq;have pc:=I5.pin (G2.objs.size,o4) (List.mem_append_right _ (List.mem_append_right _ (by simp)));exact⟨m4,⟨o4,es4,ep4,pc.1,hd4,hk4⟩,λh' hs'=>⟨σ5,H5,Inv.turned (t':=s5.toks) (it:=G2.objs.size) I5.unpinned (λb o hb e=>(hs'.2 b hb).trans e) pc.2.1 FC.2.1 FC.2.2.2.1 FC.2.2.2.2.1 FC.2.2.2.2.2,q5⟩⟩
  ·refine thn (T.item (ZY X scope N G2.objs.size s2 H2 fp) rfl rfl rfl hc i [] s3 τ H3 _ I3 (stat fr3) st3 go) λr s4 zq=>?_;obtain⟨u,hr,h4⟩:=zq;subst hr;refine wpAny_bind (thn h4 λ_ s5 zq=>?_);obtain⟨x,H5,I5,r5,y5,st5,fr5⟩:=zq;have I5':=I5.pinned (stat fr5) (T.obj _ _ st5);refine wpAny_bind (thn (hg _ _ _ _ _ s5 τ H5 x u _ I5' r5 (step x H5 y5)) λ_ s6 zq=>?_);obtain⟨τ6,H6,I6,q6⟩:=zq;refine wpAny_bind (wpAny_bind (thn (he _ _ _ _ _ s6 τ6 H6 _ I6 q6) λyv s7 zq=>?_));obtain⟨y,H7,I7,r7,hD7,n7⟩:=zq;obtain⟨m',hm',w7⟩:=hN _ _ _ n7;refine wpAny_bind (thn (Jn _ s7 τ6 H7 (.ref s2.heap.objs.size) [y] (.ref s2.heap.objs.size) [yv] (λ_ Hz=>Hz=upd H7 s2.heap.objs.size (.lst (ys++[y]))) I7 rfl (.cons r7 .nil) ⟨_,_,_,rfl,rfl,hD7,hys,rfl⟩) λ_ s8 zq=>?_);obtain⟨_,H8,I8,_,e8⟩:=zq;subst e8;refine wpAny_pure (wpAny_pure ⟨rfl,m',hm',i + 1,_,τ6,_,I8.unpinned,T.keep _ _ _ st5 λb hb o e=>(I8.pin (b,o) (List.mem_append_right _ (List.mem_append_right _ (ZZ hb e)))).1,λb hb=>?_,w7⟩);obtain⟨o,e,d⟩:=T.obj _ _ st5 b hb;exact (I8.pin (b,o) (List.mem_append_right _ (List.mem_append_right _ (ZZ hb e)))).2.1
 exact codeAny_compStart_list (loop _ rfl) (T.self _ 0 _ _ _ stB (loop _ rfl))
section
variable {X:Cx}
end
theorem rd_part {t:TE}{σ:St}{H:Hp}{Q:Option Int→Hp→Prop}(q:t σ H λx H1=>∃ i,x=.int i∧Q (some i) H1):Z6G t σ H Q:=q
theorem rd_sl {r:V→Option Int→Option Int→Hp→VK→Prop}{te:TE}{tl th:TO}{σ:St}{H:Hp}{Q:VK}(q:te σ H λx H1=>tl σ H1 λl H2=>th σ H2 λu H3=>r x l u H3 Q):tSl r te tl th σ H Q:=q
theorem Z1w {K:W.Frag}{a:Addr}{xs:List V}{g:TG}{tb:TS}{nx:St→Hp→Prop}{rt:VK}{σ:St}{H:Hp}(Pv:Nat→St→Hp→Prop)(h0:Pv 0 σ H)(hl:∀ i σ H,i≤xs.length→Pv i σ H→SqL K H a xs)
 (hs:∀ i x σ H,xs[i]? = some x→Pv i σ H→g x σ H λσ2 H2=>tb { nx:=Pv (i + 1),rt:=rt,bk:=nx,ct:=Pv (i + 1) } σ2 H2) (hd:∀ σ H,Pv xs.length σ H→nx σ H) :
 ∃ W:Nat→Nat→St→Hp→Prop,(∃ m,W 0 m σ H)∧∀ i m σ H,W i m σ H→
   ((Itl K a).stop i H∧nx σ H)∨((Itl K a).go i H∧∃ N:St→Hp→Prop,(∀ σ' H',N σ' H'→∃ m',m' < m∧W (i + 1) m' σ' H')∧∀ x H',(Itl K a).yld i H x H'→g x σ H' λσ2 H2=>tb { nx:=N,rt:=rt,bk:=nx,ct:=N } σ2 H2):=
 Z2l (D:={ nx:=nx,rt:=rt }) Pv h0 hl hs hd
end L2
namespace L2
open PySem PySem.Spec PyProof.Rows PySem.W
theorem ObjOk.has {P:Program}{w:World}{H:Hp}{h:Heap}{a:Addr}{o:HO}(x:ObjOk P w H h a o):∃ u,h.get? a=some u:=by
 cases o with
 | lst xs=>obtain⟨_,_,_,_,e⟩:=x;exact⟨_,e⟩
 | tup xs=>obtain⟨_,_,_,u,e,_⟩:=x;exact⟨u,e⟩
 | dK kvs=>obtain⟨_,_,_,_,u,_,_,e,_⟩:=x;exact⟨u,e⟩
 | dT kvs=>obtain⟨_,_,_,_,u,_,_,e,_⟩:=x;exact⟨u,e⟩
 | set S n=>obtain⟨u,_,_,_,e,_⟩:=x;exact⟨u,e⟩
 | ins C dx fs=>obtain⟨_,_,_,e,_⟩:=x;exact⟨_,e⟩
 | own y=>exact x
 | xd fs=>obtain⟨mA,⟨u,_,_,e,_⟩,_⟩:=x;exact⟨u,e⟩
 | met f y=>exact⟨_,x⟩
 | rng lo hi=>obtain⟨_,_,_,e⟩:=x;exact⟨_,e⟩
 | frz u y=>exact⟨_,x.1⟩
 | tbl ps=>exact⟨_,x⟩
 | ext φ=>exact x.2.1
noncomputable def Trc (h:Heap)(x C t T:Addr):Prop:=∃ oe vs oT ts,h.get? x=some oe∧oe.cls=.ref C∧oe.data=.fields vs∧vs[0]? = some (.ref t)∧vs[1]? = some (.ref T)∧T≠x∧h.get? T=some oT∧oT.data=.fields ts∧ts[3]? = some .none
noncomputable def CX1 (P:Program)(w:World):CXT:=λouter H s E e s'=>∃ (x C t T:Addr) (H':Hp),e=.ref x∧s'.os=s.os∧AllBare s'.gens∧Un (frs outer) [] H H' s.heap s'.heap∧HOk P w H' s'.heap∧
 H' x=none∧H' T=none∧s.heap.get? x=none∧s.heap.get? T=none∧Trc s'.heap x C t T∧E (.ref C) none H'
section
variable {X:Cx}{pins:List (Addr×Obj)}{σ:St}{H H':Hp}{s:Shared}
theorem Jo {as:List Addr}{h':Heap}(I:Inv X pins σ H s)(hs:(hideAll s.heap (frs X.stack++as)).StaysIn h')(hn:∀ b∈as,H b=none):HOk X.prog X.w H h':=λb o e=>by
 refine (I.hok b o e).stay (λc u hc q=>hs c u (hideAll_get _ q λhm=>?_)) (λ_ q=>q) λ_ _ q=>q;have hc':∃ o',H c=some o':=by
  rcases hc with rfl|hc
  ·exact⟨_,e⟩
  ·exact⟨_,hc⟩
 obtain⟨o',ho'⟩:=hc'
 rcases List.mem_append.mp hm with z|z
 ·rw[I.stkFree c z] at ho';cases ho'
 ·rw[hn c z] at ho';cases ho'
theorem Z2k {as:List Addr}{h':Heap}(I:Inv X pins σ H s)(hx:X.ex=[])(hs:(hideAll s.heap (frs X.stack++as)).StaysIn h')(up:s.heap.UpToSlots h')(ha:∀ b∈as,X.s₀.heap.get? b=none):Un (frs X.outer) [] X.H₀ H X.s₀.heap h':=by
 have u:=I.base;rw[hx] at u;have old:∀ b o,X.s₀.heap.get? b=some o→b ∉ frs X.outer→b ∉ frs X.stack++as:=λb o e n hm=>by
  rcases List.mem_append.mp hm with z|z
  ·rcases List.mem_cons.mp (I.stkSub b z) with q|q
   ·exact absurd (Nat.lt_of_lt_of_le (Heap.lt_size e) (by rw[q];exact I.ok.above)) (Nat.lt_irrefl _)
   ·exact n q
  ·rw[ha b z] at e;cases e
 have fr:∀ b,b∈frs X.outer→∀ o,s.heap.get? b=some o→∀ vs,o.data≠.fields vs:=λb hb o e vs=>by
  obtain⟨_,o',ho',hd'⟩:=I.funs.mem hb;rw[e] at ho';cases ho';exact hd' vs
 refine⟨λb o e n hb _=>hs b o (hideAll_get _ (u.keep b o e n hb (by simp)) (old b o e hb)),λb o e n hb _=>?_,u.free,λb o e _=>?_,u.tups,u.frzs,u.tbls⟩
 ·obtain⟨sl,q⟩:=u.slot b o e n hb (by simp);obtain⟨sl',q'⟩:=up b _ q (fr b hb _ q);exact⟨sl',q'⟩
 ·obtain⟨o',q⟩:=u.there b o e (by simp)
  by_cases hb:b∈frs X.outer
  ·obtain⟨sl',q'⟩:=up b _ q (fr b hb _ q);exact⟨_,q'⟩
  ·exact⟨o',hs b o' (hideAll_get _ q (old b o e hb))⟩
theorem Z69 {x C t T:Addr}{E:XK}{EE:Value→Shared→Prop}(I:Inv X pins σ H s)(hst:X.stack=X.env::X.outer)(hf:X.env.frame=some X.env.locals)(hex:X.ex=[])
 (fx:H x=none) (fT:H T=none) (ox:X.s₀.heap.get? x=none) (oT:X.s₀.heap.get? T=none) (tr:Trc s.heap x C t T) (q:E (.ref C) none H) :
 wpAny (model X.prog X.w) X.A (leaving X.env (.ref x)) (λ_ s''=>CX1 X.prog X.w X.outer X.H₀ X.s₀ E (.ref x) s'') EE s:=by
 obtain⟨oe,vs,oT',ts,a1,a2,a3,a4,a5,a6,a7,a8,a9⟩:=id tr;have hin:∀ env∈X.stack,∀ a,env.frame=some a→a∈frs X.stack++[x,T]:=λenv he a ha=>List.mem_append_left _ (List.mem_filterMap.mpr ⟨env,he,ha⟩);have fl:Heap.FlyingW (hideAll s.heap (frs X.stack++[x,T])) X.stack x (.ref C) (.ref t) s.heap:=
  ⟨λb o e=>of_hideAll _ e,hideAll_none _ (List.mem_append_right _ (by simp)),funFrames_hide I.stack hin,oe,vs,T,oT',ts,a1,⟨a2,a4⟩,a3,a5,hideAll_none _ (List.mem_append_right _ (by simp)),a6,a7,a8,a9⟩
 rw[hst] at fl;refine wpAny_leaves_onW (by rw[I.ok.frames,hst]) hf fl λh' fl' up=>?_;obtain⟨k1,k2,k3,oe',vs',T',oT'',ts',b1,⟨b2,b3⟩,b4,b5,b6,b7,b8,b9,b10⟩:=fl';rw[←hst] at k1 b6;have hm:∀ b∈[x,T],H b=none:=λb hb=>by
  rcases List.mem_cons.mp hb with e|hb
  ·rw[e];exact fx
  ·rw[List.mem_singleton.mp hb];exact fT
 have hm2:∀ b∈[x,T],X.s₀.heap.get? b=none:=λb hb=>by
  rcases List.mem_cons.mp hb with e|hb
  ·rw[e];exact ox
  ·rw[List.mem_singleton.mp hb];exact oT
 have hT':H T'=none∧X.s₀.heap.get? T'=none:=by
  cases e:s.heap.get? T' with
  | none=>
    refine⟨?_,?_⟩
    ·cases z:H T' with
     | none=>rfl
     | some o=>
       obtain⟨u,hu⟩:=ObjOk.has (I.hok T' o z);rw[e] at hu;cases hu
    ·cases z:X.s₀.heap.get? T' with
     | none=>rfl
     | some o=>
       obtain⟨o',q'⟩:=I.base.there T' o z (by rw[hex];simp);rw[e] at q';cases q'
  | some o=>
    have hmem:T'∈frs X.stack++[x,T]:=by
     refine Decidable.byContradiction λn=>?_;rw[hideAll_get _ e n] at b6;cases b6
    rcases List.mem_append.mp hmem with z|z
    ·obtain⟨_,of,hof,hdf⟩:=I.stack.mem z;obtain⟨sl,qq⟩:=up T' of hof hdf;rw[b8] at qq;cases qq;exact absurd b9 (hdf ts')
    ·exact⟨hm T' z,hm2 T' z⟩
 exact⟨x,C,t,T',H,rfl,I.os,I.bare,Z2k I hex k1 up hm2,Jo I k1 hm,fx,hT'.1,ox,hT'.2,⟨oe',vs',oT'',ts',b1,b2,b4,b3,b5,b7,b8,b9,b10⟩,q⟩
theorem Z49 {x C:Addr}{args:List Value}{E:XK}{EE:Value→Shared→Prop}{g:Heap}(I:Inv X pins σ H s)(hst:X.stack=X.env::X.outer)(hf:X.env.frame=some X.env.locals)(hex:X.ex=[])
 (mk:Heap.MadeExcOf s.heap g x (.ref C) args) (q:E (.ref C) none H) :
 wpAny (model X.prog X.w) X.A (leaving X.env (.ref x)) (λ_ s''=>CX1 X.prog X.w X.outer X.H₀ X.s₀ E (.ref x) s'') EE { s with heap:=g }:=by
 have hin:∀ env∈X.stack,∀ a,env.frame=some a→a∈frs X.stack++[]:=λenv he a ha=>List.mem_append_left _ (List.mem_filterMap.mpr ⟨env,he,ha⟩);have ff:s.heap.FunFrames (hideAll s.heap (frs X.stack++[])) (X.env::X.outer):=by
  rw[←hst];exact funFrames_hide I.stack hin
 have gone:∀ b,s.heap.get? b=none→H b=none∧X.s₀.heap.get? b=none:=λb e=>by
  refine⟨?_,?_⟩
  ·cases z:H b with
   | none=>rfl
   | some o=>
     obtain⟨u,hu⟩:=ObjOk.has (I.hok b o z);rw[e] at hu;cases hu
  ·cases z:X.s₀.heap.get? b with
   | none=>rfl
   | some o=>
     obtain⟨o',q'⟩:=I.base.there b o z (by rw[hex];simp);rw[e] at q';cases q'
 refine wpAny_leaves_madeW (s:={ s with heap:=g }) (by rw[I.ok.frames,hst]) hf (λb o e=>of_hideAll _ e) ff mk λh' t fl' tup bt up=>?_;obtain⟨k1,k2,k3,oe',vs',T',oT'',ts',b1,⟨b2,b3⟩,b4,b5,b6,b7,b8,b9,b10⟩:=fl';have up':s.heap.UpToSlots h':=(Heap.UpToSlots.of_keeps mk.keeps).trans up;have hT':H T'=none∧X.s₀.heap.get? T'=none:=by
  cases e:s.heap.get? T' with
  | none=>exact gone T' e
  | some o=>
    have hmem:T'∈frs X.stack++[]:=by
     refine Decidable.byContradiction λn=>?_;rw[hideAll_get _ e n] at b6;cases b6
    rcases List.mem_append.mp hmem with z|z
    ·obtain⟨_,of,hof,hdf⟩:=I.stack.mem z;obtain⟨sl,qq⟩:=up' T' of hof hdf;rw[b8] at qq;cases qq;exact absurd b9 (hdf ts')
    ·simp at z
 obtain⟨gx,ox⟩:=gone x mk.new;exact⟨x,C,t,T',H,rfl,I.os,I.bare,Z2k I hex k1 up' (by simp),Jo I k1 (by simp),gx,hT'.1,ox,hT'.2,⟨oe',vs',oT'',ts',b1,b2,b4,b3,b5,b7,b8,b9,b10⟩,q⟩
end
abbrev vErr:List Value:=[.type "ValueError",.type "Exception",.type "BaseException",.type "object"]
theorem Z3s {K:Frag}{h:Heap}{C:Addr}{bmB:List Value}{newId:String}(Xi:K.In h)(q:excIn K C bmB newId=true) :
 ∃ tl N nm qn bs hd sn sub ab col dd k0 k1 k2 k3 k5 mN,h.get? C=some (excClassObj nm qn C N bs tl hd sn sub ab col dd k0 k1 k2 k3 k5 newId)∧h.Ns N mN∧mN "__init__" = none∧OwnTail h bmB tl:=by
 unfold excIn at q
 split at q
 ·rename_i dd cd sl look
  split at q
  ·rename_i C' tl k0 k1 k2 k3 n k5 em es;simp only[Bool.and_eq_true,beq_iff_eq,Bool.not_eq_true'] at q;obtain⟨⟨⟨⟨⟨rfl,rfl⟩,q1⟩,q2⟩,q3⟩,q4⟩:=q;obtain⟨nm,bs,mro,ns,qn,hd,sn,sub,ab,col,del⟩:=cd;dsimp only at em q1 q3 q4;subst em q1;obtain⟨l⟩:=sl;simp only at es;subst es;exact⟨tl,ns,nm,qn,bs,hd,sn,sub,ab,col,dd,k0,k1,k2,k3,k5,_,Xi _ _ look,.of_isNs (isNs_of_in Xi q3),nsMap_none_of_in Xi q3 q4,tail_of_in Xi q2⟩
  ·cases q
 ·cases q
structure Lv (X:Cx)(E:XK):Prop where
 st:X.stack=X.env::X.outer
 fr:X.env.frame=some X.env.locals
 ex:X.ex=[]
 xe:∀ ee s',wpAny (model X.prog X.w) X.A (leaving X.env ee) (λ_ s''=>CX1 X.prog X.w X.outer X.H₀ X.s₀ E ee s'') (λe' s''=>CX1 X.prog X.w X.outer X.H₀ X.s₀ E e' s'') s'→X.xe ee s'
section
variable {X:Cx}{E:XK}{ta:TA}
theorem Ym (L:Lv X E):X1 (CX1 X.prog X.w) X E:=λpins σ H s e s' I h=>by
 obtain⟨x,C,t,T,H',rfl,os,bare,un,hok,fx,fT,ox,oT,tr,q⟩:=h;obtain⟨hh,g,d,tk,os'⟩:=s';obtain rfl:os'=s.os:=os;have J:Inv X pins σ H' { s with heap:=hh,gens:=g,drawn:=d,toks:=tk }:=I.call (h':=hh) (g':=g) (d':=d) (t':=tk) (ch:=[]) un hok bare (λb z=>absurd z (by simp));have old:∀ b,s.heap.get? b=none→X.s₀.heap.get? b=none:=λb e=>by
  cases z:X.s₀.heap.get? b with
  | none=>rfl
  | some o=>
    obtain⟨o',q'⟩:=I.base.there b o z (by rw[L.ex];simp);rw[e] at q';cases q'
 exact L.xe _ _ (Z69 J L.st L.fr L.ex fx fT (old x ox) (old T oT) tr q)
noncomputable def Z2t (E:XK)(C:Addr)(ta:TA):TS:=λ_ σ H=>ta σ H λvs H1=>vs.length≤100∧E (.ref C) none H1
theorem Xe {C:Addr}{x:Str}{e:Expr}{np cpos pos:Pos}(L:Lv X E)(hc:X.calm=true)(hg:Gl X x)(hm:X.mg x=some (.ref C))(hC:excIn X.K C vErr "ValueError.__new__" = true)(pa:PA X [e] ta)
 (hs:starEach [e] X.env=[(false,eval e X.env)]:=by rfl) (hd:(x == ("__debug__" : Str))=false:=by decide):PS X (.Raise (some (.Call (.Name x np) [e] [] cpos)) none pos) (Z2t E C ta):=by
 intro pins s σ H D I h;obtain⟨tl,N,nm,qn,bs,hd',sn,sub,ab,col,dd,k0,k1,k2,k3,k5,mN,o1,o2,o3,o4⟩:=Z3s I.ok.mod.kin hC;refine wpAny_Raise_call_subT (C:=C) (nm:=nm) (q:=qn) (N:=N) (bs:=bs) (bm:=tl) (hdct:=hd') (sn:=sn) (sub:=sub) (ab:=ab) (col:=col) (dd:=dd) (k0:=k0) (k1:=k1) (k2:=k2) (k3:=k3) (k5:=k5) PySem.F.excBase_ValueError (mN:=mN) (o4.hasType PySem.F.excBase_ValueError.hasBase) (I.ok.hd hc) (by rw[hs];rfl) o3 (YR I hg hm ⟨rfl,?_⟩ hd);have h1:=pa cpos pins s σ H _ I h;rw[hs] at h1 ⊢;refine Calls.evalArgs_plain (wpAny_mono h1 (λus s₂ zq=>?_) λ_ _ y=>y);obtain⟨vs,H2,I2,rv,len,q⟩:=zq;have ks:∀ b o,X.base.get? b=some o→s₂.heap.get? b=some o:=λb o e=>(I2.bs b o e).1;have ln:=rv.length;refine⟨rfl,ZC (show us.length≤1000 by omega),ks _ _ o1,o2.keeps ks,o4.keeps ks,λh' e' mk=>?_⟩;exact L.xe _ _ (Z49 I2 L.st L.fr L.ex mk q)
end
section
variable {P:Program}{w:World}{K:W.Frag}{mg:Str→Option Value}{base:Heap}
theorem ZM {N:List Str}{qual:Str}{scope:Scope}{f:Addr}{cd:Value}{A:Around}{outer:List Env}{s:Shared}{H:Hp}{E:XK}:Lv (Xs (CX1 P w) P w K mg base N qual scope f cd A outer s H E) E:=⟨rfl,rfl,rfl,λ_ _ h=>h⟩
theorem Fun.okX {x qual:Str}{st:Stmt}{f:Addr}{fd:FuncData}{N ps:List Str}{k:Nat}{sp:Sp}(F:Fun K x qual st f fd)(S:FnScope N ps (Z3 st))(len:∀ vs H Q E,sp vs H Q E→vs.length=ps.length)
 (hbody:∀ (cdv:Value) (A:Around) (outer:List Env) (s:Shared) (H:Hp) (vs:List V) (Q:VK) (E:XK),Room k (A.deeper (envOfC qual (Z3 st) s.heap.objs.size f cdv))→sp vs H Q E→
   ∃ t,PSs (Xs (CX1 P w) P w K mg base N qual (Z3 st) f cdv A outer s H E) (Z9 st) t∧t { nx:=λ_ H'=>Q .non H',rt:=Q } (start N vs) H):FnOk P w K mg base (CX1 P w) (k + 1) f fd ps sp:=by
 obtain⟨oc,od,kV,doc,pm,an,cdv,ct,osl,rfl,lk,hcd⟩:=F.ex;exact Z6B lk hcd S len λA outer s H vs Q E hr hsp=>hbody cdv A outer s H vs Q E hr hsp
end
section
variable {M:Model}{A:Around}{E:Value→Shared→Prop}
theorem Z3l {h:Heap}{g:Array GenState}{d:Drawn}{t:Nat}{os:OsState}{e C D:Addr}{oe:Obj}{Q:Bool→Shared→Prop}
 {nm q:Str}{N:Addr}{bs bm:List Value}{hdct:Bool}{sn:List Str}{sub:List Value}{ab:Bool}{col:Option Bool}{dd:Option Addr}{k0 k1 k2 k3 k5:Option Value}{newId:String}
 {nm' q':Str}{N':Addr}{bs' bm':List Value}{hdct':Bool}{sn':List Str}{sub':List Value}{ab':Bool}{col':Option Bool}{dd':Option Addr}{k0' k1' k2' k3' k5':Option Value}{newId':String}
 (hC:h.get? C=some (excClassObj nm q C N bs bm hdct sn sub ab col dd k0 k1 k2 k3 k5 newId)) (hD:h.get? D=some (excClassObj nm' q' D N' bs' bm' hdct' sn' sub' ab' col' dd' k0' k1' k2' k3' k5' newId'))
 (he:h.get? e=some oe) (hcls:oe.cls=.ref C) (hbase:bm'.contains (.type "BaseException")=true) (hb:(Value.ref C::bm).contains (.ref D)=true)
 (hq:Q true ⟨h,g,d,t,os⟩):wpAny M A (excMatches (.ref e) (.ref D)) Q E ⟨h,g,d,t,os⟩:=by
 have hcB:(Value.ref D::bm').contains (.type "BaseException")=true:=by rw[List.contains_cons,hbase,Bool.or_true]
 have f:=tc_notTuple;unfold excMatches
 repeat (first|(with_reducible refine wpAny_loadPart_at he ?_;rw[hcls])|with_reducible refine wpAny_loadPart_at hD ?_|(with_reducible refine wpAny_isSubtype_exc hD ?_;rw[hcB])|(with_reducible refine wpAny_isSubtype_exc hC ?_;rw[hb])|wp_step)
 exact hq
end
section
variable {X:Cx}{pins:List (Addr×Obj)}{σ:St}{H H':Hp}{s s':Shared}
noncomputable def XU (x C:Addr):HO:=.ext λh=>∃ oe vs,h.get? x=some oe∧oe.cls=.ref C∧oe.data=.fields vs
noncomputable abbrev Cx.marked (X:Cx)(x:Addr):Cx:={ X with A:=X.A.mark (some (.ref x)),calm:=false,xe:=λ_ _=>False }
theorem Inv.marked (I:Inv X pins σ H s)(x:Addr):Inv (X.marked x) pins σ H s:=
 ⟨⟨I.ok.mod,I.ok.kind,I.ok.glob,I.ok.blt,I.ok.above,I.ok.inj,I.ok.has,I.ok.cab,(λz=>nomatch z),I.ok.frames,I.ok.stk,I.ok.exf,I.ok.bs,I.ok.bsz,I.ok.noex,I.ok.exfs,I.ok.funs,I.ok.frf⟩,I.os,I.bare,I.base,I.loc,I.cell,I.free,I.freeC,I.pin,I.hok,I.len⟩
theorem Inv.unmarked {x:Addr}(J:Inv (X.marked x) pins σ H s)(ok:X.Ok):Inv X pins σ H s:=⟨ok,J.os,J.bare,J.base,J.loc,J.cell,J.free,J.freeC,J.pin,J.hok,J.len⟩
noncomputable def Z28 (K:Frag)(C:Addr):Prop:=∃ nm q N bs tl hd sn sub ab col dd k0 k1 k2 k3 k5 nid,K.lookup C=some (excClassObj nm q C N bs tl hd sn sub ab col dd k0 k1 k2 k3 k5 nid)
theorem ZB {K:Frag}{C:Addr}{bm:List Value}{nid:String}(q:excIn K C bm nid=true):Z28 K C:=by
 unfold excIn at q
 split at q
 ·rename_i dd cd sl look
  split at q
  ·rename_i C' tl k0 k1 k2 k3 n k5 em es;simp only[Bool.and_eq_true,beq_iff_eq,Bool.not_eq_true'] at q;obtain⟨⟨⟨⟨⟨rfl,rfl⟩,q1⟩,q2⟩,q3⟩,q4⟩:=q;obtain⟨nm,bs,mro,ns,qn,hd,sn,sub,ab,col,del⟩:=cd;dsimp only at em q1;subst em q1;obtain⟨l⟩:=sl;simp only at es;subst es;exact⟨nm,qn,ns,bs,tl,hd,sn,sub,ab,col,dd,k0,k1,k2,k3,k5,_,look⟩
  ·cases q
 ·cases q
theorem Z0l {M:Model}{A:Around}{E:Value→Shared→Prop}{i:Nat}{n:Str}{pos:Pos}{Q:Unit→Shared→Prop}(I:Inv X pins σ H s)(hN:X.N.Nodup)(hi:X.N[i]? = some n)(hl:X.env.scope.names.lookup n=some .local)
 (h:∀ s',Inv X pins (σ.set i none) H s'→Q () s'):wpAny M A (do bindName X.env n .none;unbindBehindTheSuite X.env n pos) Q E s:=by
 obtain⟨m,hn,hlk⟩:=id I.loc;have hcls:(X.env.scope.kind == .class || (X.env.scope.kind == .module && X.env.locals != X.env.globals))=false:=by rw[I.ok.kind];rfl
 have hiσ:i < σ.length:=by rw[I.len];exact (List.getElem?_eq_some_iff.mp hi).1
 have cne:=I.cne;refine wpAny_nameGoes_keeps hl hn hcls λg v hn' hs=>?_;have up:∀ b o,X.s₀.heap.get? b=some o→b≠X.env.locals:=λb o e=>Nat.ne_of_lt (Nat.lt_of_lt_of_le (Heap.lt_size e) I.ok.above);refine h _ ⟨I.ok,I.os,I.bare,⟨λb o e z hb hx=>(hs.2 b (up b o e)).trans (I.base.keep b o e z hb hx),λb o e z hb hx=>?_,I.base.free,λb o e hx=>?_,I.base.tups,I.base.frzs,I.base.tbls⟩,⟨_,hn',λj y v' e1 e2 e3=>?_⟩,λy c e=>?_,I.free,I.freeC,λp hp=>?_,λb ob e=>?_,by simpa using I.len⟩
 ·obtain⟨sl,e1⟩:=I.base.slot b o e z hb hx;exact⟨sl,(hs.2 b (up b o e)).trans e1⟩
 ·obtain⟨o',e1⟩:=I.base.there b o e hx;exact⟨o',(hs.2 b (up b o e)).trans e1⟩
 ·by_cases hj:j=i
  ·subst hj;rw[List.getElem?_set_self hiσ] at e2;cases e2
  ·rw[List.getElem?_set_ne (Ne.symm hj)] at e2;obtain⟨u',r',q⟩:=hlk j y v' e1 e2 e3;refine⟨u',r',?_⟩
   rcases q with⟨k,e⟩|⟨k,c,e,z⟩
   ·have ny:y≠n:=λe=>hj (Z0F hN e1 (e▸hi));exact .inl ⟨k,by simp[ny,e]⟩
   ·exact .inr ⟨k,c,e,z.sameBut hs (cne y c e)⟩
 ·obtain⟨w',z⟩:=I.cell y c e;exact⟨w',z.sameBut hs (cne y c e)⟩
 ·obtain⟨e,z,ne,nf,d⟩:=I.pin p hp;exact⟨(hs.2 p.1 ne).trans e,z,ne,nf,d⟩
 ·refine (I.hok b ob e).stay (λc w' hc q=>(hs.2 c ?_).trans q) (λ_ q=>q) λ_ _ q=>q;rintro rfl
  rcases hc with rfl|hc
  ·rw[I.free] at e;cases e
  ·rw[I.free] at hc;cases hc
theorem Z1v {x T:Addr}{h5:Heap}(un:Un (frs X.stack) [] H H' s.heap s'.heap)(J:Inv X pins σ H' s')(hs:(hideAll s'.heap (frs X.stack++[x,T])).StaysIn h5)(up:s'.heap.UpToSlots h5)(ox:s.heap.get? x=none)(oT:s.heap.get? T=none):Un (frs X.stack) [] H H' s.heap h5:=by
 have old:∀ b o,s.heap.get? b=some o→b ∉ frs X.stack→b ∉ frs X.stack++[x,T]:=λb o e n hm=>by
  rcases List.mem_append.mp hm with z|z
  ·exact n z
  ·rcases List.mem_cons.mp z with q|q
   ·rw[q,ox] at e;cases e
   ·rw[List.mem_singleton.mp q,oT] at e;cases e
 have fr:∀ b,b∈frs X.stack→∀ o,s'.heap.get? b=some o→∀ vs,o.data≠.fields vs:=λb hb o e vs=>by
  obtain⟨_,o',ho',hd'⟩:=J.stack.mem hb;rw[e] at ho';cases ho';exact hd' vs
 refine⟨λb o e n hb _=>hs b o (hideAll_get _ (un.keep b o e n hb (by simp)) (old b o e hb)),λb o e n hb _=>?_,un.free,λb o e _=>?_,un.tups,un.frzs,un.tbls⟩
 ·obtain⟨sl,q⟩:=un.slot b o e n hb (by simp);obtain⟨sl',q'⟩:=up b _ q (fr b hb _ q);exact⟨sl',q'⟩
 ·obtain⟨o',q⟩:=un.there b o e (by simp)
  by_cases hb:b∈frs X.stack
  ·obtain⟨sl',q'⟩:=up b _ q (fr b hb _ q);exact⟨_,q'⟩
  ·exact⟨o',hs b o' (hideAll_get _ q (old b o e hb))⟩
noncomputable def Jq (i:Nat)(D:Ends):Ends:={ nx:=λσ H=>D.nx (σ.set i none) H,rt:=D.rt,bk:=λσ H=>D.bk (σ.set i none) H,ct:=λσ H=>D.ct (σ.set i none) H }
theorem Z6d {x C t T D:Addr}{i:Nat}{n cn:Str}{D0:Ends}{b₀:Stmt}{suite:List Stmt}{np hpos:Pos}(I:Inv X pins σ H s)(hos:s'.os=s.os)(bare:AllBare s'.gens)(un:Un (frs X.stack) [] H H' s.heap s'.heap)(hok:HOk X.prog X.w H' s'.heap)
 (fx:H' x=none) (fT:H' T=none) (ox:s.heap.get? x=none) (oT:s.heap.get? T=none) (tr:Trc s'.heap x C t T) (hst:X.stack=X.env::X.outer) (hf:X.env.frame=some X.env.locals) (hN:X.N.Nodup) (hi:X.N[i]? = some n) (hl:X.env.scope.names.lookup n=some .local)
 (hg:Gl X cn) (hm:X.mg cn=some (.ref D)) (hC:Z28 X.K C) (hD:excIn X.K D vErr "ValueError.__new__" = true) (hb:mroIn X.K C (.ref D)=some true)
 (go:∀ s7,Inv (X.marked x) pins (σ.set i (some (.ref x))) (upd H' x (XU x C)) s7→wpAny (model X.prog X.w) (X.marked x).A (execs (b₀::suite) X.env) (SP (X.marked x) pins (Jq i D0)) (λ_ _=>False) s7)
 (hd:(cn == ("__debug__" : Str))=false:=by decide) :
 wpAny (model X.prog X.w) X.A (noteFrame (.ref x) X.env) (λ_ s₂=>wpAny (model X.prog X.w) X.A (setFlight (.ref x) none) (λ_ s₃=>wpAny (model X.prog X.w) X.A (handleBy (.ref x) X.env [.ExceptHandler (some (.Name cn np)) (some n) (b₀::suite) hpos]) (SP X pins D0) X.xe s₃) X.xe s₂) X.xe s':=by
 have J:Inv X pins σ H' s':=I.call' hos un hok bare (λb z=>absurd z (by simp));obtain⟨oe,vs,oT',ts,a1,a2,a3,a4,a5,a6,a7,a8,a9⟩:=id tr;have hin:∀ env∈X.stack,∀ a,env.frame=some a→a∈frs X.stack++[x,T]:=λenv he a ha=>List.mem_append_left _ (List.mem_filterMap.mpr ⟨env,he,ha⟩);have fl:Heap.FlyingW (hideAll s'.heap (frs X.stack++[x,T])) X.stack x (.ref C) (.ref t) s'.heap:=
  ⟨λb o e=>of_hideAll _ e,hideAll_none _ (List.mem_append_right _ (by simp)),funFrames_hide J.stack hin,oe,vs,T,oT',ts,a1,⟨a2,a4⟩,a3,a5,hideAll_none _ (List.mem_append_right _ (by simp)),a6,a7,a8,a9⟩
 have hm':∀ b∈[x,T],H' b=none:=λb hb=>by
  rcases List.mem_cons.mp hb with e|hb
  ·rw[e];exact fx
  ·rw[List.mem_singleton.mp hb];exact fT
 generalize hB:hideAll s'.heap (frs X.stack++[x,T])=B at fl;rw[hst] at fl;refine wpAny_looks_onW (by rw[I.ok.frames,hst]) hf fl λh4 held4 up4=>?_;refine wpAny_landsW held4 λh5 fl5 up5=>?_;have up:s'.heap.UpToSlots h5:=up4.trans up5;have J5:Inv X pins σ H' { s' with heap:=h5 }:=I.call' (s':={ s' with heap:=h5 }) hos (Z1v un J (by rw[hB];exact fl5.1) up ox oT) (Jo J (by rw[hB];exact fl5.1) hm') bare (λb z=>absurd z (by simp));obtain⟨nm,qn,N,bs,tl,hd',sn,sub,ab,col,dd,k0,k1,k2,k3,k5,nid,o0⟩:=hC;have o1:=J5.kIn _ _ o0;obtain⟨tl',N',nm',qn',bs',hd'',sn',sub',ab',col',dd',k0',k1',k2',k3',k5',mN',p1,p2,p3,p4⟩:=Z3s J5.kIn hD;obtain⟨ob,hob,hobc⟩:=fl5.there;have hct:(Value.ref C::tl).contains (.ref D)=true:=by
  obtain⟨cd,q1,q2⟩:=Option.bind_eq_some_iff.mp hb;unfold clsIn at q1
  split at q1
  ·rename_i c1 c2 cd' c3 look;cases q1;have e:=J5.kIn _ _ look;rw[o1] at e;cases e
   split at q2
   ·cases q2
   ·exact Option.some.inj q2
  ·cases q1
 refine wpAny_handleBy_cons (codeAny_handlers_test (YR (X:=X.marked x) (J5.marked x) hg hm (Z3l o1 p1 hob hobc (p4.hasType PySem.F.excBase_ValueError.hasBase) hct (codeAny_handlers_suite_as ?_)) hd)) (by intro q;cases q);refine lands_againW fl5 λh6 fl6 up6=>?_;have up':s'.heap.UpToSlots h6:=up.trans up6;have un6:=Z1v un J (by rw[hB];exact fl6.1) up' ox oT;have hok6:=Jo J (by rw[hB];exact fl6.1) hm';obtain⟨oe6,vs6,g1,g2,g3,g4⟩:=fl6.first;have ne:∀ b o,s.heap.get? b=some o→b≠x:=λb o e z=>by rw[z,ox] at e;cases e
 have ne':∀ b o,H' b=some o→b≠x:=λb o e z=>by rw[z,fx] at e;cases e
 have un7:Un (frs X.stack) [] H (upd H' x (XU x C)) s.heap h6:=⟨un6.keep,un6.slot,λb o e z q=>by rw[Z2 (ne b o e)];exact un6.free b o e z q,un6.there,
  λb xs e=>by have:=un6.tups b xs e;rw[Z2 (ne' _ _ this)];exact this,λb o u e=>by have:=un6.frzs b o u e;rw[Z2 (ne' _ _ this)];exact this,
  λb ps e=>by obtain⟨more,q⟩:=un6.tbls b ps e;exact⟨more,by rw[Z2 (ne' _ _ q)];exact q⟩⟩
 have hok7:HOk X.prog X.w (upd H' x (XU x C)) h6:=λb o e=>by
  by_cases hbx:b=x
  ·subst hbx;rw[Z1] at e;cases e;exact⟨⟨oe6,vs6,g1,g2,g3⟩,⟨_,g1⟩,λh1 h2 ⟨u1,u2,v1,v2,v3⟩ kk=>⟨u1,u2,kk _ v1,v2,v3⟩⟩
  ·rw[Z2 hbx] at e;exact (hok6 b o e).stay (λc u _ q=>q) (λc q=>by rw[Z2 (ne' _ _ q)];exact q) λc xs q=>by rw[Z2 (ne' _ _ q)];exact q
 have J6:Inv X pins σ (upd H' x (XU x C)) { s' with heap:=h6 }:=I.call' (s':={ s' with heap:=h6 }) hos un7 hok7 bare (λb z=>absurd z (by simp));refine Z0I (X:=X.marked x) (J6.marked x) hN hi (.inl hl) (v:=.ref x) rfl (λs7 I7=>?_) (.inr hl);refine wpAny_mono (go s7 I7) (λf s8 q=>?_) λ_ _ z=>z.elim;cases f with
 | next=>
   obtain⟨σ',H9,I9,d⟩:=q;exact Z0l (I9.unmarked I.ok) hN hi hl λs9 I10=>⟨_,H9,I10,d⟩
 | brk=>
   obtain⟨σ',H9,I9,d⟩:=q;exact Z0l (I9.unmarked I.ok) hN hi hl λs9 I10=>⟨_,H9,I10,d⟩
 | cont=>
   obtain⟨σ',H9,I9,d⟩:=q;exact Z0l (I9.unmarked I.ok) hN hi hl λs9 I10=>⟨_,H9,I10,d⟩
 | ret u=>
   obtain⟨v,σ',H9,I9,r,d⟩:=q;exact Z0l (I9.unmarked I.ok) hN hi hl λs9 I10=>⟨v,_,H9,I10,r,d⟩
end
end L2
namespace PySem.W
open PySem PySem.Spec PySem.Calls PyProof.Rows Builtin Builtin.ObjectAttr Builtin.Getset_descriptor
section
variable {prog:Program}{w:World}{A:Around}{E:Value→Shared→Prop}{s:Shared}{K:Frag}{x C:Addr}
theorem Z55 {M:Model}{nm:Value}{Q:Unit→Shared→Prop}(L0:Looks M s.heap (typeOf (.ref x)) (.ref C))(L4:Looks M s.heap (isSubtype (.ref C) (.type "BaseException")) true)(q:Q () s) :
 wpAny M A (checkBuiltinCall "BaseException.__getattribute__" ⟨[.ref x,nm],[]⟩) Q E s:=by
 have hsp:splitId "BaseException.__getattribute__" = some ("BaseException","__getattribute__"):=by decide +kernel
 have hkd:builtinKind "BaseException.__getattribute__" = some .slot:=by
  simp only[builtinKind,hsp];decide +kernel
 have hargs:=PySem.F.args_bexc_ga (.ref x) nm;simp only[checkBuiltinCall,hkd,hsp];unfold isInstance;refine wpAny_bind (wpAny_bind (L0.at (L4.at ?_)));simp only[Bool.not_true,Bool.false_eq_true,if_false];cases hsig:Manifest.signature? "BaseException.__getattribute__" with
 | none=>exact wpAny_pure q
 | some sig=>
   simp only[argsOk,hsig] at hargs;have h2:Bind.checkArgs "BaseException.__getattribute__" sig ⟨[.ref x,nm],[]⟩=pure ():=hargs;show wpAny M A (Bind.checkArgs "BaseException.__getattribute__" sig ⟨[.ref x,nm],[]⟩) Q E s;rw[h2];exact wpAny_pure q
theorem Z3S {M:Model}{h:Heap}{name:Str}{a g:Value}(X:K.In h)(h1:findIn K (.ref C) name=some (some a))(h2:specialIn K a "__get__" = some (some g))(h3:takesIn K a=some true):Looks M h (find (.ref x) (.ref C) name) (.bind g a):=by
 have l2:Looks M h (getOf (some a)) (some g):=looks_specialIn X h2;have l3:Looks M h (dataDescriptor? (some a) (some g)) (some (g,a)):=(looks_takesIn (M:=M) X h3).andThen .now;exact (looks_findIn (M:=M) X h1).andThen (l2.andThen (l3.andThen (Looks.tag .now)))
theorem Z7P {tp:Value}{R:Result→Shared→Prop}(L0:Looks (model prog w) s.heap (typeOf (.ref x)) (.ref C))(L1:Looks (model prog w) s.heap (isSubtype (.ref C) (.type "object")) true)(h:R (.ok (.ret (.ref C))) s) :
 codeAny (model prog w) A (.call (.builtin "getset_descriptor.__get__") ⟨[.builtin "object.__class__",.ref x,tp],[]⟩) R s:=by
 obtain⟨hh,g,dr,t,os⟩:=s;refine codeAny_call_builtin KF.slot_gs.plain KF.entry_gs ?_;refine KF.slot_gs.check _ _ _ _ _ _ _ _ KF.type_class (KF.args_gs _ _ _) ?_;unfold Builtin.«getset_descriptor.__get__» descrGet;rw[dga_obj];refine wpAny_bind (wpAny_pure ?_);unfold descrGetter descrCheckInstance descrNameAndClass;unfold isInstance;simp only[KF.owner_class]
 repeat lk
 refine And.intro (Code.quiet_builtin _ (by decide +kernel)) (codeAny_builtin KF.entry_class ?_);unfold Builtin.«object.__class__»;unfold shownTypeOf
 repeat lk
 exact h
structure XC (K:Frag)(C:Addr):Prop where
 ga:findIn K (.ref C) "__getattribute__" = some (some (.builtin "BaseException.__getattribute__"))
 gh:findIn K (.ref C) "__getattr__" = some none
 ca:findIn K (.ref C) "__class__" = some (some (.builtin "object.__class__"))
 mo:mroIn K C (.type "object")=some true
 mb:mroIn K C (.type "BaseException")=some true
structure XD (K:Frag):Prop where
 g:specialIn K (.builtin "object.__class__") "__get__" = some (some (.builtin "getset_descriptor.__get__"))
 t:takesIn K (.builtin "object.__class__")=some true
theorem Z54 {Q:Option Value→Shared→Prop}(X:K.In s.heap)(L0:∀ M,Looks M s.heap (typeOf (.ref x)) (.ref C))(F:XC K C)(G:XD K)
 (h:Q (some (.ref C)) { s with toks:=s.toks + 1 }):wpAny (model prog w) A (getAttr? (.ref x) "__class__") Q E s:=by
 obtain⟨hh,g,d,t,os⟩:=s;have L0:=L0 (model prog w);have L1:=looks_findIn (M:=model prog w) X F.ga;have L2:=looks_findIn (M:=model prog w) X F.gh;have L3:=Z3S (M:=model prog w) (x:=x) X F.ca G.g G.t;have L4:=looks_mroIn (M:=model prog w) X F.mb;have L5:=looks_mroIn (M:=model prog w) X F.mo;have fb:bindSpecial (.builtin "BaseException.__getattribute__") (.ref x)=pure (.builtin "BaseException.__getattribute__",[.ref x]):=PySem.F.excAttr_ValueError.ga.bind (.ref x);unfold getAttr? getAttrBy? getAttrBy;refine wpAny_bind (wpAny_mkText (wpAny_bind (wpAny_attempt (wpAny_holding (wpAny_bind (L0.at (wpAny_bind (L1.at ?_))))))));show wpAny _ _ (getAttrByItsOwn _ _ _ _ _ _) _ _ _;unfold getAttrByItsOwn hookBefore;refine wpAny_bind (L2.at ?_);refine wpAny_bind (wpAny_attempt (wpAny_holding ?_));show wpAny _ _ (boundAndCalled _ _ _) _ _ _;unfold boundAndCalled;rw[fb];refine wpAny_bind (wpAny_pure ?_);refine wpAny_call (codeAny_call_builtin (by decide +kernel) PySem.F.entry_bexc_ga ?_);refine Z55 L0 L4 ?_;show wpAny _ _ (Builtin.«object.__getattribute__» ⟨[.ref x,.str (Str.ofString "__class__") t],[]⟩) _ _ _;unfold Builtin.«object.__getattribute__» slotArgs Builtin.ObjectAttr.attrName
 lk
 lk
 lk
 lk
 lk
 lk
 lk
 lk
 lk
 lk
 lk
 refine wpAny_bind (L0.at (wpAny_bind (L3.at ?_)));show wpAny _ _ (Builtin.ObjectAttr.bindTo (.builtin "getset_descriptor.__get__") (.builtin "object.__class__") (.ref x) (.ref C)) _ _ _;unfold Builtin.ObjectAttr.bindTo;dsimp only;refine wpAny_bind (wpAny_holding (wpAny_call (Z7P (s:=⟨hh,g,d,t + 1,os⟩) L0 L5 ?_)));exact wpAny_pure (handed_on rfl (wpAny_pure h))
noncomputable def ExcAt (x C:Addr)(h:Heap):Prop:=∃ oe,h.get? x=some oe∧oe.cls=.ref C
theorem ExcAt.ty {M:Model}{h:Heap}(p:ExcAt x C h):Looks M h (typeOf (.ref x)) (.ref C):=by
 obtain⟨o,h1,h2⟩:=p;exact h2▸(Looks.ld h1).andThen .now
theorem Z5H (F:XC K C)(G:XD K):KitX K (.ref x) (.ref C) (ExcAt x C):=by
 obtain⟨cd,hcd,_⟩:=Option.bind_eq_some_iff.mp F.mo;unfold clsIn at hcd
 split at hcd
 ·rename_i c' d' cd' sl' ho;refine⟨λ_ _ _ p=>p.ty,λ_ _ X _=>?_,λh tp dd its n sl X htp=>?_,λX p k=>Z54 X (λ_=>p.ty) F G k⟩
  ·intro A' Q' E' s' k q;unfold isType;unfold loadHead;exact wpAny_bind (wpAny_loadPart (k _ _ (X _ _ ho)) (wpAny_pure q))
  ·refine Bool.eq_false_iff.mpr λq=>?_;have e:C=tp:=Value.ref.inj (beq_iff_eq.mp q);subst e;cases (X _ _ ho).symm.trans htp
 ·cases hcd
end
end PySem.W
namespace L2
open PySem PySem.Spec PyProof.Rows PySem.W
theorem boot_ValueError:bootBuiltins "ValueError" = some (.type "ValueError"):=by decide +kernel
section
variable {X:Cx}{K:Frag}
end
end L2
namespace PySem.W
open PySem PySem.Spec PySem.Calls PyProof.Rows Builtin Builtin.ObjectAttr Builtin.Getset_descriptor
section
variable {prog:Program}{w:World}{A:Around}{E:Value→Shared→Prop}{s:Shared}{K:Frag}{x C:Addr}
end
section
variable {prog:Program}{w:World}{A:Around}{R:Result→Shared→Prop}{h:Heap}{g:Array GenState}{d:Drawn}{t:Nat}{os:OsState}
variable {nm q:Str}{c N fI:Addr}{bs tl:List Value}{hd:Bool}{sn:List Str}{sub:List Value}{ab:Bool}{col:Option Bool}{dd:Option Addr}{k0 k1 k2 k3 k5:Option Value}{args:List Value}
end
noncomputable def Z5b:List Value→Bool
 | .ref _::r=>Z5b r
 | l=>l == L2.vErr
structure XS (K:Frag)(C:Addr)(name:Str):Prop where
 sa:findIn K (.ref C) "__setattr__" = some (some (.builtin "object.__setattr__"))
 no:findIn K (.ref C) name=some none
 cl:∃ cd,clsIn K C=some cd∧Z5b cd.mro=true∧cd.hasDict=true
section
variable {prog:Program}{w:World}{A:Around}{E:Value→Shared→Prop}{s:Shared}{K:Frag}{x C:Addr}
end
end PySem.W
namespace L2
open PySem PySem.Spec PyProof.Rows PySem.W
noncomputable def IsX (o:HO)(x C:Addr):Prop:=∃ φ,o=.ext φ∧∀ h,φ h→ExcAt x C h
theorem Z0p {x C:Addr}:IsX (XU x C) x C:=⟨_,rfl,λh ⟨oe,vs,a,b,c⟩=>⟨oe,a,b⟩⟩
section
variable {X:Cx}{pins:List (Addr×Obj)}{σ:St}{H:Hp}{s:Shared}
theorem Inv.gone (I:Inv X pins σ H s){b:Addr}(e:s.heap.get? b=none):H b=none:=by
 cases z:H b with
 | none=>rfl
 | some o=>
   obtain⟨u,hu⟩:=(I.hok b o z).has;rw[e] at hu;cases hu
theorem ZH {K:Frag}(hK:X.K=K):YA X (.builtin "isinstance") (λxs H Q=>∃ (x C:Addr) (c:V) (cv:Value) (b:Bool) (o:HO),xs=[.ref x,c]∧(∀ u,RelV c u→u=cv)∧H x=some o∧IsX o x C∧XC K C∧XD K∧kitOne K (.ref C) cv=some b∧Q (.bl b) H):=by
 subst hK;intro pins s σ H xs us Q I r h;obtain⟨x,C,c,cv,b,o,rfl,hcv,hx,⟨φ,rfl,hφ⟩,F,G,e,q⟩:=h;obtain⟨u,w',rfl,rx,rc⟩:=Z6v r;have ec:=hcv _ rc;subst ec;cases (show u=Value.ref x from rx);have z:=I.hok x _ hx;exact kia_one (Z5H F G) I.kIn (hφ _ z.1) e (λz=>nomatch z) λtk=>⟨.bl b,H,I.tok tk,rfl,q⟩
end
structure XI (K:Frag)(C fI:Addr):Prop where
 lk:∃ nm q N bs tl hd sn sub ab col dd k0 k1 k2 k3 k5,K.lookup C=some (excClassObj nm q C N bs tl hd sn sub ab col dd k0 k1 k2 k3 k5 "ValueError.__new__")∧tailIn K vErr tl=true
 ini:findIn K (.ref C) "__init__" = some (some (.ref fI))
 fn:isFn K (.ref fI)=true
 kp:keepIn K (.ref C)=true
section
variable {X:Cx}{C:Addr}{x f:Str}{e o value:Expr}{p pos pos':Pos}{ta:TA}{te tv:TE}{E:XK}{CX:CXT}{k:Nat}{fI:Addr}{fd:FuncData}{ps:List Str}{sp:Sp}
end
noncomputable def xOk (K:Frag)(C:Addr):Bool:=findIn K (.ref C) "__getattribute__" == some (some (.builtin "BaseException.__getattribute__")) && findIn K (.ref C) "__getattr__" == some none && findIn K (.ref C) "__class__" == some (some (.builtin "object.__class__")) &&
 mroIn K C (.type "object") == some true && mroIn K C (.type "BaseException") == some true
theorem Z8I {K:Frag}{C:Addr}(h:xOk K C=true):XC K C:=by
 unfold xOk at h;simp only[Bool.and_eq_true,beq_iff_eq] at h;exact⟨h.1.1.1.1,h.1.1.1.2,h.1.1.2,h.1.2,h.2⟩
noncomputable def Z4h (K:Frag)(cs:List Addr):Bool:=(List.range cs.length).all λi=>(List.range cs.length).all λj=>kitOne K (.ref (cs.getD i 0)) (.ref (cs.getD j 0)) == some (i == j)
theorem Z8N {K:Frag}{cs:List Addr}(h:Z4h K cs=true){i j:Nat}(hi:i < cs.length)(hj:j < cs.length):kitOne K (.ref (cs.getD i 0)) (.ref (cs.getD j 0))=some (i == j):=by
 unfold Z4h at h;exact beq_iff_eq.mp (List.all_eq_true.mp (List.all_eq_true.mp h i (List.mem_range.mpr hi)) j (List.mem_range.mpr hj))
noncomputable def Z3V (K:Frag)(D:Addr)(cs:List Addr):Bool:=cs.all λc=>xOk K c && kitOne K (.ref c) (.ref D) == some true && kitOne K (.ref c) (.type "ValueError") == some true
theorem Z64 {cs:List Addr}{i:Nat}(hi:i < cs.length):cs.getD i 0∈cs:=by
 rw[List.getD_eq_getElem?_getD,List.getElem?_eq_getElem hi];exact List.getElem_mem hi
theorem Z8J {K:Frag}{D:Addr}{cs:List Addr}(h:Z3V K D cs=true){i:Nat}(hi:i < cs.length):XC K (cs.getD i 0)∧kitOne K (.ref (cs.getD i 0)) (.ref D)=some true∧kitOne K (.ref (cs.getD i 0)) (.type "ValueError")=some true:=by
 have:=List.all_eq_true.mp h _ (Z64 hi);simp only[Bool.and_eq_true,beq_iff_eq] at this;exact⟨Z8I this.1.1,this.1.2,this.2⟩
section
variable {X:Cx}
end
end L2
namespace L2
open PySem PySem.Spec PyProof.Rows
section
variable {κ:Type}[DecidableEq κ]
noncomputable def ZP (kvs:List (κ×V))(k:κ):Option V:=(kvs.find? λkv=>decide (kv.1=k)).map (·.2)
noncomputable def X0 (kvs:List (κ×V))(k:κ)(v:V):List (κ×V):=
 if (kvs.any λkv=>decide (kv.1=k))=true then kvs.map (λkv=>if kv.1=k then (kv.1,v) else kv) else kvs++[(k,v)]
noncomputable def JG (kvs:List (κ×V))(k:κ):List (κ×V):=kvs.filter λkv=>decide (kv.1≠k)
theorem Z0B {p:κ×V}{r:List (κ×V)}{k:κ}(e:p.1=k):ZP (p::r) k=some p.2:=by simp[ZP,List.find?_cons,e]
theorem Z0A {p:κ×V}{r:List (κ×V)}{k:κ}(e:¬ p.1=k):ZP (p::r) k=ZP r k:=by simp[ZP,List.find?_cons,e]
theorem Jf (k:κ):∀ kvs:List (κ×V),(kvs.any λkv=>decide (kv.1=k))=(ZP kvs k).isSome
 | []=>rfl
 | p::r=>by
   rw[List.any_cons]
   by_cases e:p.1=k
   ·simp only[Z0B e,decide_eq_true e,Bool.true_or,Option.isSome_some]
   ·rw[Z0A e,decide_eq_false e,Bool.false_or];exact Jf k r
theorem Z0s (kvs:List (κ×V))(k:κ)(v:V):(X0 kvs k v).length≤kvs.length + 1:=by
 unfold X0
 split
 ·rw[List.length_map];omega
 ·rw[List.length_append,List.length_cons,List.length_nil];omega
theorem Z2e {kvs:List (κ×V)}{k:κ}(v:V)(h:ZP kvs k=none):X0 kvs k v=kvs++[(k,v)]:=by
 unfold X0;rw[Jf,h];exact if_neg (by decide)
theorem RelO.isSome_eq {o:Option V}{u:Option Value}(r:RelO o u):o.isSome=u.isSome:=by
 cases o with
 | none=>cases u with
   | none=>rfl
   | some _=>exact (show False from r).elim
 | some _=>cases u with
   | none=>exact (show False from r).elim
   | some _=>rfl
theorem KV.val {kvs:List (κ×V)}{vs:List (κ×Value)}(r:KV kvs vs)(k:κ):RelO (ZP kvs k) (valueAt vs k):=by
 unfold KV at r
 induction r with
 | nil=>exact True.intro
 | @cons p q ps qs h t ih=>
   obtain⟨h1,h2⟩:=h
   by_cases e:p.1=k
   ·have e':q.1=k:=h1.symm.trans e;have b:valueAt (q::qs) k=some q.2:=by simp[valueAt,List.find?_cons,e']
    rw[Z0B e,b];exact h2
   ·have e':¬ q.1=k:=λz=>e (h1.trans z);have b:valueAt (q::qs) k=valueAt qs k:=by simp[valueAt,List.find?_cons,e']
    rw[Z0A e,b];exact ih
theorem KV.any {kvs:List (κ×V)}{vs:List (κ×Value)}(r:KV kvs vs)(k:κ):(kvs.any λkv=>decide (kv.1=k))=vs.any λkv=>decide (kv.1=k):=by
 unfold KV at r
 induction r with
 | nil=>rfl
 | cons h t ih=>rw[List.any_cons,List.any_cons,ih,h.1]
theorem KV.repl {kvs:List (κ×V)}{vs:List (κ×Value)}(r:KV kvs vs)(k:κ){y:V}{u:Value}(ry:RelV y u) :
 KV (kvs.map λkv=>if kv.1=k then (kv.1,y) else kv) (vs.map λkv=>if kv.1=k then (kv.1,u) else kv):=by
 unfold KV at r ⊢
 induction r with
 | nil=>exact .nil
 | @cons p q ps qs h t ih=>
   rw[List.map_cons,List.map_cons];refine .cons ?_ ih;obtain⟨h1,h2⟩:=h
   by_cases e:p.1=k
   ·rw[if_pos e,if_pos (h1.symm.trans e)];exact⟨h1,ry⟩
   ·rw[if_neg e,if_neg (λz=>e (h1.trans z))];exact⟨h1,h2⟩
theorem KV.put {kvs:List (κ×V)}{vs:List (κ×Value)}(r:KV kvs vs)(k:κ){y:V}{u:Value}(ry:RelV y u):KV (X0 kvs k y) (stored vs k u):=by
 unfold X0 stored;rw[r.any k]
 by_cases e:(vs.any λkv=>decide (kv.1=k))=true
 ·rw[if_pos e,if_pos e];exact r.repl k ry
 ·rw[if_neg e,if_neg e];exact Paired.snoc r ⟨rfl,ry⟩
theorem KV.drop {kvs:List (κ×V)}{vs:List (κ×Value)}(r:KV kvs vs)(k:κ):KV (JG kvs k) (without vs k):=by
 unfold KV at r ⊢;unfold JG without
 induction r with
 | nil=>exact .nil
 | @cons p q ps qs h t ih=>
   obtain⟨h1,h2⟩:=h;rw[List.filter_cons,List.filter_cons]
   by_cases e:p.1=k
   ·have a:¬ decide (p.1≠k)=true:=by simp[e]
    have b:¬ decide (q.1≠k)=true:=by simp[h1.symm.trans e]
    rw[if_neg a,if_neg b];exact ih
   ·have e':¬ q.1=k:=λz=>e (h1.trans z);have a:decide (p.1≠k)=true:=by simp[e]
    have b:decide (q.1≠k)=true:=by simp[e']
    rw[if_pos a,if_pos b];exact .cons ⟨h1,h2⟩ ih
theorem KV.length {kvs:List (κ×V)}{vs:List (κ×Value)}(r:KV kvs vs):kvs.length=vs.length:=Paired.length r
theorem Z5n (kvs:List (κ×V))(k:κ):(JG kvs k).length≤kvs.length:=List.length_filter_le _ _
end
theorem JD {P:Program}{w:World}{k:Key}{u:Value}(r:RelV (kV k) u):(Zv P w).is k u=true:=by
 cases k with
 | inl i=>obtain⟨t,e⟩:=(show ∃ t,u=Value.int i t from r);subst e;exact Z36 P w i t
 | inr x=>obtain⟨t,e⟩:=(show ∃ t,u=Value.str x t from r);subst e;exact Z39 P w x t
theorem Z1z {P:Program}{w:World}:∀ {ks:List Key}{us:List Value},Vals (ks.map kV) us→ItemsAre (Zv P w) ks us
 | [],_,r=>by rw[List.map_nil] at r;cases r;exact .nil
 | k::ks,_,r=>by
   rw[List.map_cons] at r;cases r with
   | cons h t=>exact .cons (JD h) (Z1z t)
noncomputable abbrev KT (H:Hp):List (List Key×V)→List (List Key×Addr×Value)→Prop:=Paired λp q=>p.1=q.1∧H q.2.1=some (.tup (p.1.map kV))∧RelV p.2 q.2.2
theorem KT.val {H:Hp}{kvs:List (List Key×V)}{xs:List (List Key×Addr×Value)}(r:KT H kvs xs)(k:List Key):RelO (ZP kvs k) ((atKey xs k).map (·.2)):=by
 induction r with
 | nil=>exact True.intro
 | @cons p q ps qs h t ih=>
   obtain⟨h1,_,h2⟩:=h
   by_cases e:p.1=k
   ·have e':q.1=k:=h1.symm.trans e;have b:atKey (q::qs) k=some q.2:=by simp[atKey,List.find?_cons,e']
    rw[Z0B e,b];exact h2
   ·have e':¬ q.1=k:=λz=>e (h1.trans z);have b:atKey (q::qs) k=atKey qs k:=by simp[atKey,List.find?_cons,e']
    rw[Z0A e,b];exact ih
theorem KT.repl {H:Hp}{kvs:List (List Key×V)}{xs:List (List Key×Addr×Value)}(r:KT H kvs xs)(k:List Key){y:V}{u:Value}(ry:RelV y u) :
 KT H (kvs.map λkv=>if kv.1=k then (kv.1,y) else kv) (xs.map (putAt k u)):=by
 induction r with
 | nil=>exact .nil
 | @cons p q ps qs h t ih=>
   rw[List.map_cons,List.map_cons];refine .cons ?_ ih;obtain⟨h1,h2,h3⟩:=h;unfold putAt
   by_cases e:p.1=k
   ·rw[if_pos e,if_pos (h1.symm.trans e)];exact⟨h1,h2,ry⟩
   ·rw[if_neg e,if_neg (λz=>e (h1.trans z))];exact⟨h1,h2,h3⟩
theorem KT.put {H:Hp}{kvs:List (List Key×V)}{xs:List (List Key×Addr×Value)}(r:KT H kvs xs)(k:List Key){b:Addr}{y:V}{u:Value}(hb:H b=some (.tup (k.map kV)))(ry:RelV y u) :
 KT H (X0 kvs k y) (storedH xs k b u):=by
 have e:(kvs.any λkv=>decide (kv.1=k))=(atKey xs k).isSome:=by
  rw[Jf,(r.val k).isSome_eq,Option.isSome_map]
 unfold X0 storedH;rw[e]
 by_cases q:(atKey xs k).isSome=true
 ·rw[if_pos q,if_pos q];exact r.repl k ry
 ·rw[if_neg q,if_neg q];exact Paired.snoc r ⟨rfl,hb,ry⟩
theorem KT.keeps {H H':Hp}{kvs:List (List Key×V)}{xs:List (List Key×Addr×Value)}(r:KT H kvs xs)(ht:∀ b ys,H b=some (.tup ys)→H' b=some (.tup ys)):KT H' kvs xs:=
 Paired.mapP r λ_ _ z=>⟨z.1,ht _ _ z.2.1,z.2.2⟩
section
variable {P:Program}{w:World}{H:Hp}{h:Heap}{a:Addr}
theorem Z6A {u:HO}(ok:HOk P w H h)(e:Rd H a u):ObjOk P w H h a u:=e.ok ok
theorem XX {kvs:List (Key×V)}(ok:HOk P w H h)(e:Rd H a (.dK kvs)):kvs.length≤sizeLine∧(a == sysModules)=false∧∃ vs,KV kvs vs∧h.DictOf (Zv P w) a vs:=
 show ObjOk P w H h a (.dK kvs) from Z6A ok e
theorem Z4m {kvs:List (Key×V)}(ok:HOk P w H h)(e:H a=some (.dK kvs)):kvs.length≤sizeLine∧(a == sysModules)=false∧∃ vs,KV kvs vs∧h.DictOf (Zv P w) a vs:=XX ok (.inl e)
theorem JZ {ks:List Key}(ok:HOk P w H h)(e:H a=some (.tup (ks.map kV))):(tupleKind (Zv P w)).is h ks a:=by
 obtain⟨_,its,r,o,h1,h2,n,h3⟩:=(show ObjOk P w H h a (.tup (ks.map kV)) from ok a _ e);exact⟨o,its.toArray,n,h1,h2,h3,by simpa using Z1z r⟩
theorem Z0o {kvs:List (List Key×V)}(ok:HOk P w H h)(e:Rd H a (.dT kvs)):kvs.length≤sizeLine∧(a == sysModules)=false∧
 ∃ xs,KT H kvs xs∧h.DictOfH (tupleKind (Zv P w)) a xs:=by
 obtain⟨z,y,xs,r,o,es,ep,h1,h2,h3,h4,h5⟩:=(show ObjOk P w H h a (.dT kvs) from Z6A ok e);refine⟨z,y,xs,r,o,es,ep,h1,h2,h3,h4,λx hx=>?_,h5⟩;have all:∀ {l:List (List Key×V)}{m:List (List Key×Addr×Value)},KT H l m→∀ x∈m,(tupleKind (Zv P w)).is h x.1 x.2.1:=by
  intro l m q
  induction q with
  | nil=>intro x hx;exact nomatch hx
  | @cons p q ps qs hq t ih=>
    intro x hx
    rcases List.mem_cons.mp hx with e|hx
    ·subst e;exact JZ ok (by rw[←hq.1];exact hq.2.1)
    ·exact ih x hx
 exact all r x hx
theorem Z8H {kvs:List (List Key×V)}(ok:HOk P w H h)(e:H a=some (.dT kvs)):kvs.length≤sizeLine∧(a == sysModules)=false∧
 ∃ xs,KT H kvs xs∧h.DictOfH (tupleKind (Zv P w)) a xs:=Z0o ok (.inl e)
end
noncomputable def DGet (H:Hp)(a:Addr)(y:V)(r:Option V):Prop:=
 (∃ kvs k,Rd H a (.dK kvs)∧y=kV k∧r=ZP kvs k)∨∃ kvs k b,Rd H a (.dT kvs)∧y=.ref b∧H b=some (.tup (k.map kV))∧r=ZP kvs k
noncomputable def DPut (H:Hp)(a:Addr)(y v:V)(H':Hp):Prop:=
 (∃ kvs k,H a=some (.dK kvs)∧y=kV k∧kvs.length < sizeLine∧H'=upd H a (.dK (X0 kvs k v)))∨
 ∃ kvs k b,H a=some (.dT kvs)∧y=.ref b∧H b=some (.tup (k.map kV))∧kvs.length < sizeLine∧H'=upd H a (.dT (X0 kvs k v))
theorem DGet.k {H:Hp}{a:Addr}{kvs:List (Key×V)}{k:Key}(e:H a=some (.dK kvs)):DGet H a (kV k) (ZP kvs k):=.inl ⟨kvs,k,.inl e,rfl,rfl⟩
theorem DPut.k {H:Hp}{a:Addr}{kvs:List (Key×V)}{k:Key}{v:V}(e:H a=some (.dK kvs))(hl:kvs.length < sizeLine):DPut H a (kV k) v (upd H a (.dK (X0 kvs k v))):=.inl ⟨kvs,k,e,rfl,hl,rfl⟩
section
variable {X:Cx}{pins:List (Addr×Obj)}{σ:St}{H:Hp}{s:Shared}{a:Addr}{y v:V}{u r:Value}{o:Option V}{A:Around}{E:Value→Shared→Prop}
theorem Inv.big (I:Inv X pins σ H s):sysModules < s.heap.objs.size:=by
 have h:mainGlobals < s.heap.objs.size:=(I.mod.glob.keeps I.bk).lt;exact Nat.lt_trans (by decide) h
theorem Z4U {Q:Value→Shared→Prop}(hu:A.units + 1 < cLine)(I:Inv X pins σ H s)(g:DGet H a y (some v))(ry:RelV y u)(h:∀ w' s',Inv X pins σ H s'→RelV v w'→Q w' s') :
 wpAny (model X.prog X.w) A (getItem (.ref a) u) Q E s:=by
 rcases g with⟨kvs,k,e,ey,l⟩|⟨kvs,k,b,e,ey,eb,l⟩
 ·subst ey;obtain⟨z,hd,vs,rel,dd⟩:=XX I.hok e;obtain⟨w',hw,rw'⟩:=RelO.some_of (v:=v) (o:=valueAt vs k) (by rw[l];exact rel.val k);exact wpAny_getItem_of (JD ry) dd.mapOf hw (h w' _ (I.tok _) rw')
 ·subst ey;cases (show u=Value.ref b from ry);obtain⟨z,hd,xs,rel,dd⟩:=Z0o I.hok e;obtain⟨w',hw,rw'⟩:=RelO.some_of (v:=v) (o:=(atKey xs k).map (·.2)) (by rw[l];exact rel.val k);obtain⟨p,hp,hp2⟩:=Option.map_eq_some_iff.mp hw;refine wpAny_getItem_heap (tupleKind_room_in1 hu) (JZ I.hok eb) dd hp ?_;rw[hp2];exact h w' _ (I.tok _) rw'
theorem Z8R {Q:Value→Shared→Prop}(hu:A.units + 1 < cLine)(I:Inv X pins σ H s)(g:DGet H a y o)(ry:RelV y u)(h:∀ s',Inv X pins σ H s'→Q (.bool o.isSome) s') :
 wpAny (model X.prog X.w) A (compareOp .In u (.ref a)) Q E s:=by
 rcases g with⟨kvs,k,e,ey,l⟩|⟨kvs,k,b,e,ey,eb,l⟩
 ·subst ey;obtain⟨z,hd,vs,rel,dd⟩:=XX I.hok e;refine wpAny_in_of (JD ry) hd dd.mapOf ?_;rw[←(rel.val k).isSome_eq,←l];exact h _ (I.tok _)
 ·subst ey;cases (show u=Value.ref b from ry);obtain⟨z,hd,xs,rel,dd⟩:=Z0o I.hok e;refine wpAny_in_heap (tupleKind_room_in1 hu) (JZ I.hok eb) hd dd ?_;have q:=(rel.val k).isSome_eq;rw[Option.isSome_map] at q;rw[←q,←l];exact h _ (I.tok _)
theorem Z71 {Q:Value→Shared→Prop}(hu:A.units + 1 < cLine)(I:Inv X pins σ H s)(g:DGet H a y o)(ry:RelV y u)(h:∀ s',Inv X pins σ H s'→Q (.bool (!o.isSome)) s') :
 wpAny (model X.prog X.w) A (compareOp .NotIn u (.ref a)) Q E s:=by
 rcases g with⟨kvs,k,e,ey,l⟩|⟨kvs,k,b,e,ey,eb,l⟩
 ·subst ey;obtain⟨z,hd,vs,rel,dd⟩:=XX I.hok e;refine wpAny_notIn_of (JD ry) hd dd.mapOf ?_;rw[←(rel.val k).isSome_eq,←l];exact h _ (I.tok _)
 ·subst ey;cases (show u=Value.ref b from ry);obtain⟨z,hd,xs,rel,dd⟩:=Z0o I.hok e;refine wpAny_notIn_heap (tupleKind_room_in1 hu) (JZ I.hok eb) hd dd ?_;have q:=(rel.val k).isSome_eq;rw[Option.isSome_map] at q;rw[←q,←l];exact h _ (I.tok _)
theorem Z1d {h':Heap}{t':Nat}{ob:HO}(I:Inv X pins σ H s)(mu:Mut (H a))(hs:Heap.SameBut a s.heap h')(he:∃ q,h'.get? a=some q)(new:ObjOk X.prog X.w (upd H a ob) h' a ob) :
 Inv X pins σ (upd H a ob) { s with heap:=h',toks:=t' }:=
 I.write (x:=a) (e:=a) mu (.inl rfl) (λb q hb z=>(hs.2 b hb).trans z) he new
theorem Z2Q {P:Program}{w:World}{H':Hp}{h':Heap}{kvs:List (Key×V)}{vs:List (Key×Value)}(z:kvs.length≤sizeLine)(hd:(a == sysModules)=false)(rel:KV kvs vs)(dd:h'.DictOf (Zv P w) a vs) :
 ObjOk P w H' h' a (.dK kvs):=⟨z,hd,vs,rel,dd⟩
theorem Z4o {H':Hp}{Q:Unit→Shared→Prop}(hu:A.units + 1 < cLine)(I:Inv X pins σ H s)(g:DPut H a y v H')(ry:RelV y u)(rv:RelV v r)(h:∀ s',Inv X pins σ H' s'→Q () s') :
 wpAny (model X.prog X.w) A (setItem (.ref a) u r) Q E s:=by
 rcases g with⟨kvs,k,e,ey,l,eH⟩|⟨kvs,k,b,e,ey,eb,l,eH⟩
 ·subst ey eH;obtain⟨z,hd,vs,rel,dd⟩:=Z4m I.hok e;have hz:vs.length≤sizeLine:=by rw[←rel.length];exact z
  have hl:(X0 kvs k v).length≤sizeLine:=by have:=Z0s kvs k v;omega
  refine wpAny_setItem_pairs (hsz:=hz) (JD ry) dd λh' dd' hs=>h _ ?_;have he:∃ q,h'.get? a=some q:=let ⟨q,_,_,hq,_⟩:=dd';⟨q,hq⟩
  exact Z1d I (by rw[e];exact True.intro) hs he (Z2Q hl hd (rel.put k rv) dd')
 ·subst ey eH;cases (show u=Value.ref b from ry);obtain⟨z,hd,xs,rel,dd⟩:=Z8H I.hok e;have hz:xs.length≤sizeLine:=by rw[←Paired.length rel];exact z
  have hl:(X0 kvs k v).length≤sizeLine:=by have:=Z0s kvs k v;omega
  refine wpAny_setItem_heap (hsz:=hz) (tupleKind_room_in1 hu) (JZ I.hok eb) dd λh' dd' hs=>h _ ?_;obtain⟨q,es,ep,hq,h2,h3,h4,_,h5⟩:=dd';refine Z1d I (by rw[e];exact True.intro) hs ⟨q,hq⟩ ⟨hl,hd,_,(rel.put k eb rv).keeps λc ys ec=>?_,q,es,ep,hq,h2,h3,h4,h5⟩;rw[Z2 (Zk ec e (λz=>nomatch z))];exact ec
end
section
variable {X:Cx}{pins:List (Addr×Obj)}{σ:St}{H:Hp}{s:Shared}{a:Addr}{kvs:List (Key×V)}{k:Key}{u:Value}{A:Around}{E:Value→Shared→Prop}
theorem Z8v {v:V}{more:List Value}{Q:Value→Shared→Prop}(I:Inv X pins σ H s)(e:H a=some (.dK kvs))(ry:RelV (kV k) u)(l:ZP kvs k=some v)(hm:more=[]∨∃ x,more=[x])
 (h:∀ w' s',Inv X pins σ (upd H a (.dK (JG kvs k))) s'→RelV v w'→Q w' s'):wpAny (model X.prog X.w) A (call (.builtin "dict.pop") (.ref a::u::more)) Q E s:=by
 obtain⟨z,hd,vs,rel,dd⟩:=Z4m I.hok e;obtain⟨w',hw,rw'⟩:=RelO.some_of (v:=v) (o:=valueAt vs k) (by rw[←l];exact rel.val k);have hp:(keyPart u).isSome=true:=by
  cases k with
  | inl i=>obtain⟨t,q⟩:=(show ∃ t,u=Value.int i t from ry);subst q;rfl
  | inr x=>obtain⟨t,q⟩:=(show ∃ t,u=Value.str x t from ry);subst q;rfl
 have ha:argsOk "dict.pop" ⟨.ref a::u::more,[]⟩:=by
  rcases hm with q|⟨x,q⟩
  ·subst q;exact PySem.F.args_dict_pop_2 _ _
  ·subst q;exact PySem.F.args_dict_pop_3 _ _ _
 refine call_meetsIn PySem.F.slot_dict_pop dd.typeIs PySem.F.entry_dict_pop ha (meets_dict_pop_there (Zv X.prog X.w) a (JD ry) more hm hp)
  ⟨vs,w',dd,by rw[←rel.length];exact z,hw,λh' dd' hs=>h w' _ ?_ rw'⟩
 have he:∃ q,h'.get? a=some q:=let ⟨q,_,_,hq,_⟩:=dd';⟨q,hq⟩
 exact Z1d I (by rw[e];exact True.intro) hs he (Z2Q (Nat.le_trans (Z5n kvs k) z) hd (rel.drop k) dd')
theorem Z8C {Q:Value→Shared→Prop}(I:Inv X pins σ H s)(e:Rd H a (.dK kvs))(h:∀ t s',Inv X pins σ H s'→Q (.int kvs.length t) s'):wpAny (model X.prog X.w) A (call (.builtin "len") [.ref a]) Q E s:=by
 obtain⟨z,hd,vs,rel,dd⟩:=XX I.hok e;refine call_len_dict hd dd (by rw[←rel.length];rw[sizeLine_eq] at z;omega) ?_;rw[←rel.length];exact h _ _ (I.tok _)
end
noncomputable def Z5Y (i:Expr):Prop:=∀ ov iv,subscripted i false ov iv=operate [ov,iv] (getItem ov iv)
theorem Z3D {prog:Program}{w:World}{A:Around}{E:Value→Shared→Prop}{s:Shared}{env:Env}{value slice:Expr}{pos:Pos}{T id:String}{Q:Value→Shared→Prop}
 (hl:typeLookup (.type T) "__getitem__" = pure (some (.builtin id))) (hs:Z5Y slice)
 (h:wpAny (model prog w) A (eval value env) (λo s₁=>wpAny (model prog w) A (eval slice env) (λi s₂=>s₂.TypeIs o T∧wpAny (model prog w) A (getItem o i) Q E s₂) E s₁) E s) :
 wpAny (model prog w) A (eval (.Subscript value slice pos) env) Q E s:=by
 refine Subscript_ (wpAny_mono h (λo s₁ h₁=>wpAny_mono h₁ (λi s₂ h₂=>?_) λ_ _ x=>x) λ_ _ x=>x);obtain⟨hT,h₂⟩:=h₂;unfold subscriptTail;refine wpAny_bind ?_;rw[getitemInPython_of_ne hT.not_modules];refine wpAny_bind (wpAny_specialOf hT hl ?_);have fin:wpAny (model prog w) A (subscripted slice false o i) (λr s₃=>wpAny (model prog w) A (letTemporaryGo value o r >>= λ_=>pure r) Q E s₃) E s₂:=by
  rw[hs o i];exact wpAny_operating (wpAny_mono h₂ (λr s₃ h₃=>wpAny_bind (wpAny_letTemporaryGo (wpAny_pure h₃))) λ_ _ x=>x)
 first
  | exact wpAny_pure (wpAny_bind fin)
  | exact wpAny_bind (wpAny_pure (wpAny_bind fin))
  | exact wpAny_bind fin
theorem Z3e {X:Cx}{pins:List (Addr×Obj)}{σ:St}{H:Hp}{s:Shared}{a:Addr}{y:V}{o:Option V}(I:Inv X pins σ H s)(g:DGet H a y o):s.TypeIs (.ref a) "dict":=by
 rcases g with⟨kvs,k,e,_,_⟩|⟨kvs,k,b,e,_,_,_⟩
 ·obtain⟨_,_,vs,_,dd⟩:=XX I.hok e;exact dd.typeIs
 ·obtain⟨_,_,xs,_,dd⟩:=Z0o I.hok e;exact dd.typeIs
noncomputable def Z6J (td ty:TE):TE:=λσ H Q=>td σ H λx H1=>ty σ H1 λy H2=>∃ a v,x=.ref a∧DGet H2 a y (some v)∧Q v H2
noncomputable def Z6y (td ty tv:TE):TS:=λD σ H=>tv σ H λv H1=>td σ H1 λx H2=>ty σ H2 λy H3=>∃ a H4,x=.ref a∧DPut H3 a y v H4∧D.nx σ H4
section
variable {X:Cx}{o i e value:Expr}{pos pos' tpos:Pos}{td ty tv:TE}
theorem Z0q (hu:X.A.units + 1 < cLine)(ho:PE X o td)(hi:PE X i ty)(hs:Z5Y i):PE X (.Subscript o i pos) (Z6J td ty):=by
 intro pins s σ H Q I h;refine Z3D PySem.F.slot_dict_getitem.lookup hs (thn (ho pins s σ H _ I h) λu s1 ⟨x,H1,I1,rx,q1⟩=>thn (hi pins s1 σ H1 _ I1 q1) λiv s2 zq=>?_);obtain⟨y,H2,I2,ry,a,v,ex,g,q2⟩:=zq;subst ex;obtain rfl:u=Value.ref a:=rx;exact⟨Z3e I2 g,Z4U hu I2 g ry λw' s3 I3 rw'=>⟨v,H2,I3,rw',q2⟩⟩
theorem Z0r (hu:X.A.units + 1 < cLine)(ho:PE X o td)(hi:PE X i ty)(hv:PE X value tv)(hs:swapsWith value (some (.Subscript o i pos')) pos.line X.env=pure false) :
 PS X (.Assign [.Subscript o i pos'] value pos) (Z6y td ty tv):=by
 intro pins s σ H D I h;refine wpAny_Assign_Subscript (thn (hv pins s σ H _ I h) λr s1 ⟨v,H1,I1,rv,q1⟩=>thn (ho pins s1 σ H1 _ I1 q1) λu s2 ⟨x,H2,I2,rx,q2⟩=>thn (hi pins s2 σ H2 _ I2 q2) λiv s3 zq=>?_) hs;obtain⟨y,H3,I3,ry,a,H4,ex,g,q3⟩:=zq;subst ex;obtain rfl:u=Value.ref a:=rx;exact Z4o hu I3 g ry rv λs4 I4=>⟨σ,H4,I4,q3⟩
end
theorem Z6o {P:Program}{w:World}{H:Hp}(h:Heap)(hb:sysModules < h.objs.size):ObjOk P w H (h.push { cls:=.type "dict",data:=.dict #[] }) h.objs.size (.dK []):=
 ⟨Nat.zero_le _,beq_eq_false_iff_ne.mpr (Ne.symm (Nat.ne_of_lt hb)),[],.nil,Heap.DictOf.new h⟩
theorem Z63 {P:Program}{w:World}{H:Hp}(h:Heap)(hb:sysModules < h.objs.size):ObjOk P w H (h.push { cls:=.type "dict",data:=.dict #[] }) h.objs.size (.dT []):=
 ⟨Nat.zero_le _,beq_eq_false_iff_ne.mpr (Ne.symm (Nat.ne_of_lt hb)),[],.nil,_,#[],0,Heap.get?_push_size _ rfl,⟨rfl,rfl,rfl⟩,rfl,rfl,List.nodup_nil⟩
noncomputable def Z7Y:TE:=λ_ H Q=>∀ p,H p=none→Q (.ref p) (upd H p (.dK []))
noncomputable def Z8r:TE:=λ_ H Q=>∀ p,H p=none→Q (.ref p) (upd H p (.dT []))
section
variable {X:Cx}{pos:Pos}
theorem Z0w:PE X (.Dict [] [] pos) Z7Y:=λpins s σ H Q I h=>
 wpAny_Dict_empty ⟨.ref s.heap.objs.size,_,I.laid (a:=s.heap.objs.size) (o:=.dK []) (t':=s.toks) (λ_ _ q=>Heap.get?_push_of_some _ q) (Nat.le_refl _) (Z6o s.heap I.big),rfl,h _ (I.hok.fresh (Nat.le_refl _))⟩
theorem Z2i:PE X (.Dict [] [] pos) Z8r:=λpins s σ H Q I h=>
 wpAny_Dict_empty ⟨.ref s.heap.objs.size,_,I.laid (a:=s.heap.objs.size) (o:=.dT []) (t':=s.toks) (λ_ _ q=>Heap.get?_push_of_some _ q) (Nat.le_refl _) (Z63 s.heap I.big),rfl,h _ (I.hok.fresh (Nat.le_refl _))⟩
end
structure M1 (X:Cx)(o:Expr)(m:Str)(apos:Pos)(e:Expr)(cpos:Pos):Prop where
 base:attributeBase o m X.env (eval o X.env)=eval o X.env
 few:((backTo cpos (starEach [e] X.env)).all (λx=>!x.1) && (backToKw cpos (keywordEach [] X.env)).all (λx=>x.1.isSome)
  && decide (([e]:List Expr).length + ([]:List Keyword).length + (if ([]:List Keyword).isEmpty then 0 else 1) < 30))=true
 line:(apos.endLine == cpos.line)=true
 trees:backTo cpos (starEach [e] X.env)=[(false,eval e X.env)]
noncomputable def IsD (H:Hp)(a:Addr):Prop:=(∃ kvs,Rd H a (.dK kvs))∨∃ kvs,Rd H a (.dT kvs)
theorem Z4G {X:Cx}{pins:List (Addr×Obj)}{σ:St}{H:Hp}{s:Shared}{a:Addr}(I:Inv X pins σ H s)(d:IsD H a) :
 s.TypeIs (.ref a) "dict"∧(∀ b,Value.ref a=.ref b→∃ ob,s.heap.get? b=some ob∧ob.dict=none)∧(a == sysModules)=false:=by
 rcases d with⟨kvs,e⟩|⟨kvs,e⟩
 ·obtain⟨_,hd,vs,_,dd⟩:=XX I.hok e;refine⟨dd.typeIs,λb q=>?_,hd⟩;cases q;obtain⟨ob,_,_,h1,h2,_⟩:=dd;exact⟨ob,h1,h2.2.1⟩
 ·obtain⟨_,hd,xs,_,dd⟩:=Z0o I.hok e;refine⟨dd.typeIs,λb q=>?_,hd⟩;cases q;obtain⟨ob,_,_,h1,h2,_⟩:=dd;exact⟨ob,h1,h2.2.1⟩
section
variable {X:Cx}{pins:List (Addr×Obj)}{σ:St}{H:Hp}{s:Shared}{a:Addr}{y d:V}{u r:Value}{o:Option V}{A:Around}{E:Value→Shared→Prop}
end
noncomputable def Z8c (td ty:TE):TE:=λσ H Q=>td σ H λx H1=>∃ a,x=.ref a∧IsD H1 a∧ty σ H1 λy H2=>∃ kvs k v,H2 a=some (.dK kvs)∧y=kV k∧ZP kvs k=some v∧Q v (upd H2 a (.dK (JG kvs k)))
section
variable {X:Cx}{o e f:Expr}{apos cpos:Pos}{td ty tx:TE}
theorem Z5P (ho:PE X o td)(he:PE X e ty)(m:M1 X o "pop" apos e cpos):PE X (.Call (.Attribute o "pop" apos) [e] [] cpos) (Z8c td ty):=by
 intro pins s σ H Q I h;refine wpAny_Call_method m.base m.few m.line PySem.F.plainAttrs_dict PySem.F.slot_dict_pop PySem.F.type_dict_pop (thn (ho pins s σ H _ I h) λu s1 zq=>?_);obtain⟨x,H1,I1,rx,a,ex,d,q1⟩:=zq;subst ex;obtain rfl:u=Value.ref a:=rx;obtain⟨t1,t2,_⟩:=Z4G I1 d;refine⟨t1,t2,?_⟩;rw[m.trees];refine Calls.callWith_builtin rfl (Calls.evalArgs_plain (Calls.spliced_cons (thn (he pins s1 σ H1 _ I1 q1) λiv s2 ⟨y,H2,I2,ry,kvs,k,v,ea,ey,l,q2⟩=>Calls.spliced_nil ?_)));subst ey;exact Z8v I2 ea ry l (.inl rfl) λw' s3 I3 rw'=>⟨v,_,I3,rw',q2⟩
end
section
variable {X:Cx}{pins:List (Addr×Obj)}{σ:St}{H:Hp}{s:Shared}{a:Addr}{kvs:List (Key×V)}{A:Around}{E:Value→Shared→Prop}
theorem Z6k {Q:Value→Shared→Prop}(I:Inv X pins σ H s)(e:Rd H a (.dK kvs))(h:∀ p s',H p=none→Inv X pins σ (upd H p (.dK kvs)) s'→Q (.ref p) s'):wpAny (model X.prog X.w) A (call (.type "dict") [.ref a]) Q E s:=by
 obtain⟨z,hd,vs,rel,dd⟩:=XX I.hok e;refine kt_call_dict hd dd (by rw[←rel.length];exact z) λh' dd' hs=>?_;refine h _ _ (I.hok.fresh (Nat.le_refl _)) (I.laid (a:=s.heap.objs.size) (o:=.dK kvs) (t':=s.toks) (λb q hq=>?_) (Nat.le_refl _) (Z2Q z (beq_eq_false_iff_ne.mpr (Ne.symm (Nat.ne_of_lt I.big))) rel dd'));exact (hs.2 b (Nat.ne_of_lt (Heap.lt_size hq))).trans (Heap.get?_push_of_some _ hq)
end
section
variable {X:Cx}{pins:List (Addr×Obj)}{σ:St}{H:Hp}{s:Shared}{a:Addr}{y:V}{u:Value}{A:Around}{E:Value→Shared→Prop}
end
section
variable {X:Cx}
theorem Z4H:YA X (.builtin "len") (λxs H Q=>∃ a kvs,xs=[V.ref a]∧H a=some (.dK kvs)∧Q (.int kvs.length) H):=by
 intro pins s σ H xs us Q I r h;obtain⟨a,kvs,rfl,ha,q⟩:=h;obtain⟨u,rfl,ru⟩:=Xc r;cases ru;exact Z8C I (.inl ha) λt s' I'=>⟨.int kvs.length,H,I',⟨t,rfl⟩,q⟩
end
section
variable {κ:Type}[DecidableEq κ]
theorem Z5S {kvs:List (κ×V)}{k:κ}(h:ZP kvs k=none):¬ k∈kvs.map (·.1):=by
 intro m;obtain⟨p,hp,e⟩:=List.mem_map.mp m;have q:(kvs.any λkv=>decide (kv.1=k))=true:=List.any_eq_true.mpr ⟨p,hp,decide_eq_true e⟩;rw[Jf,h] at q;exact absurd q (by simp)
theorem Z7j {kvs:List (κ×V)}{k:κ}{v:V}(h:ZP kvs k=some v):k∈kvs.map (·.1):=by
 have q:(kvs.any λkv=>decide (kv.1=k))=true:=by
  rw[Jf,h]
  all_goals rfl
 obtain⟨p,hp,e⟩:=List.any_eq_true.mp q;exact List.mem_map.mpr ⟨p,hp,of_decide_eq_true e⟩
end
end L2
namespace L2
open PySem PySem.Spec PyProof.Rows PySem.W
noncomputable def Its (x:Str):It:=⟨λi _=>i < x.cps.size,λi H v H'=>H'=H∧∃ c,x.cps[i]? = some c∧v=.str ⟨#[c]⟩,λi _=>x.cps.size≤i⟩
theorem Z5Q {P:Program}{w:World}{K:Frag}{tg:Expr}{ty:String}(x:Str)(t:Tok)(it:Addr)(hty:ty="str_ascii_iterator"∨ty="str_iterator"):Turn P w K tg (Its x) [it] it (λi h=>h.IsStrIter it ty x t i) where
 mem:=by simp
 obj:=λi h st b hb=>by
  have e:b=it:=by simpa using hb
  subst e;obtain⟨o,e,c,d⟩:=st;exact⟨o,e,λv z=>by rw[d] at z;cases z⟩
 keep:=λi h h' st k=>by
  obtain⟨o,e,r⟩:=st;exact⟨o,k it (by simp) o e,r⟩
 item:=by
  intro X hP hw hK hc i pins s σ H E I hf st hg;subst hP hw hK;have hi:i < x.cps.size:=hg;obtain⟨f0,f1,f2,f3,f4,f5⟩:=hf it (by simp);have go:∀ h',h'.IsStrIter it ty x t (i + 1)→Heap.SameBut it s.heap h'→∃ u,some (Value.str ⟨#[x.cps[i]]⟩ s.toks)=some u∧
   wpAny (model X.prog X.w) X.A (letOwnedTupleGo tg (.ref it) u) (λ_ s2=>∃ y H',Inv X pins σ H' s2∧RelV y u∧(Its x).yld i H y H'∧s2.heap.IsStrIter it ty x t (i + 1)∧∀ b∈[it],H' b=none) E { s with heap:=h',toks:=s.toks + 1 }:=λh' st' sb=>by
   have I1:Inv X pins σ H { s with heap:=h',toks:=s.toks + 1 }:=I.turned (t':=s.toks + 1) (λb o hb e=>(sb.2 b hb).trans e) f0 f1 f3 f4 f5;obtain⟨o,e,c,d⟩:=id st';refine⟨_,rfl,Z3M (s:={ s with heap:=h',toks:=s.toks + 1 }) e c d (by rcases hty with rfl|rfl<;>decide) ⟨.str ⟨#[x.cps[i]]⟩,H,I1,⟨_,rfl⟩,⟨rfl,_,by simp[hi],rfl⟩,st',λb hb=>(hf b hb).1⟩⟩
  rcases hty with rfl|rfl
  ·exact wpAny_pyNext_ascii_item st (c:=x.cps[i]) (by simp[hi]) go
  ·exact wpAny_pyNext_wide_item st (c:=x.cps[i]) (by simp[hi]) go
 done:=by
  intro X hP hw hK hc i pins s σ H E I hf st hg;subst hP hw hK;have hi:x.cps.size≤i:=hg;obtain⟨f0,f1,f2,f3,f4,f5⟩:=hf it (by simp)
  rcases hty with rfl|rfl
  ·exact wpAny_pyNext_ascii_end (I.ok.hd hc) st (by simp;omega) λh' eb=>⟨rfl,I.turned (t':=s.toks) (λb o hb e=>eb b o hb e) f0 f1 f3 f4 f5⟩
  ·exact wpAny_pyNext_wide_end (I.ok.hd hc) st (by simp;omega) λh' eb=>⟨rfl,I.turned (t':=s.toks) (λb o hb e=>eb b o hb e) f0 f1 f3 f4 f5⟩
 self:=λ_ _ _ _ _ st h=>by
  rcases hty with rfl|rfl
  ·exact wpAny_pyIter_striter_ascii st h
  ·exact wpAny_pyIter_striter_wide st h
section
variable {X:Cx}{tg:Expr}
noncomputable def Z8Z (tl:TE):TI:=λσ H R=>tl σ H λx H1=>∃ z,x=.str z∧R (Its z) H1
theorem piS {l:Expr}{tl:TE}(hl:PE X l tl):PI X tg l (Z8Z tl):=by
 intro pins s σ H R I h;refine thn (hl pins s σ H _ I h) λv s1 zq=>?_;obtain⟨x,H1,I1,r1,q1⟩:=zq;obtain⟨z,e,q⟩:=q1;subst e;obtain⟨t,rfl⟩:=r1;refine wpAny_pyIter_strU ?_;refine⟨s1.heap.objs.size,[s1.heap.objs.size],_,_,H1,rfl,I1.kept (t':=s1.toks) λb o e=>Heap.get?_push_of_some _ e,Z5Q (ty:=strIterType z) z t _ (by unfold strIterType;split<;>simp),⟨_,Heap.get?_push_size _ rfl,rfl,rfl⟩,λb hb=>?_,q⟩;have e:b=s1.heap.objs.size:=by simpa using hb
 subst e;exact I1.fpOk (Nat.le_refl _) (I1.hok.fresh (Nat.le_refl _))
end
section
variable {X:Cx}
noncomputable def Z8L:V→Option Int→Option Int→Hp→VK→Prop:=λx lo hi H Q=>∃ z,x=.str z∧z.length≤sizeLine∧Q (.str (Txt.slice z lo hi)) H
theorem Z8n:SlR X Z8L:=by
 intro pins s σ H x v vl vu lo hi sl Q I rx hs pl pu h;obtain⟨z,rfl,hz,q⟩:=h;obtain⟨t,rfl⟩:=rx;refine⟨"str",_,F.slot_str_getitem.lookup,typeIs_str _ _ _,?_⟩;cases pl with
 | none=>
   cases pu with
   | none=>exact wpAny_getItem_str_slice (l:=none) (u:=none) (st:=none) hs rfl (post_val_or_str ⟨Nat.le_trans (Txt.slice_le z _ _) hz,λt' k=>⟨.str _,H,I.tok _,⟨_,rfl⟩,q⟩⟩)
   | int j u=>exact wpAny_getItem_str_slice (l:=none) (u:=some (j,u)) (st:=none) hs rfl (post_val_or_str ⟨Nat.le_trans (Txt.slice_le z _ _) hz,λt' k=>⟨.str _,H,I.tok _,⟨_,rfl⟩,q⟩⟩)
 | int i t'=>
   cases pu with
   | none=>exact wpAny_getItem_str_slice (l:=some (i,t')) (u:=none) (st:=none) hs rfl (post_val_or_str ⟨Nat.le_trans (Txt.slice_le z _ _) hz,λt' k=>⟨.str _,H,I.tok _,⟨_,rfl⟩,q⟩⟩)
   | int j u=>exact wpAny_getItem_str_slice (l:=some (i,t')) (u:=some (j,u)) (st:=none) hs rfl (post_val_or_str ⟨Nat.le_trans (Txt.slice_le z _ _) hz,λt' k=>⟨.str _,H,I.tok _,⟨_,rfl⟩,q⟩⟩)
theorem Z1r:∀ {zs:List Str}{us:List Value},Vals (zs.map V.str) us→∃ l:List (Str×Tok),us=strValues l∧l.map (·.1)=zs
 | [],_,.nil=>⟨[],rfl,rfl⟩
 | z::zs,_,.cons ⟨t,e⟩ r=>by
   obtain⟨l,e1,e2⟩:=Z1r (zs:=zs) r;exact⟨(z,t)::l,by rw[e,e1];rfl,by rw[List.map_cons,e2]⟩
noncomputable def Z8D (K:Frag):V→List V→Hp→VK→Prop:=λx vs H Q=>∃ (z:Str) (l:Addr) (zs:List Str),x=.str z∧vs=[.ref l]∧SqL K H l (zs.map V.str)∧JoinOk z zs=true∧Q (.str (Txt.join z zs)) H
theorem Z3n {K:Frag}(hK:X.K=K):MtR X "str.join" (Z8D K):=by
 subst hK;intro pins s σ H x vs v us Q I rx rv h;obtain⟨z,l,zs,rfl,rfl,hl,hok,q⟩:=h;obtain⟨t,rfl⟩:=rx;obtain⟨u,rfl,ru⟩:=Xc rv;cases ru;obtain⟨its,r,p,hz⟩:=I.list hl;obtain⟨ll,e1,e2⟩:=Z1r r;subst e1;exact SC.join p.isList e2 hok λt' k=>⟨.str _,H,I.tok _,⟨_,rfl⟩,q⟩
end
noncomputable def NF (X:Cx)(d:Addr):Prop:=∀ o u,X.H₀ d≠some (.frz o u)
section
variable {X:Cx}{pins:List (Addr×Obj)}{σ:St}{H:Hp}{s:Shared}{d:Addr}
theorem Inv.retold {o o':HO}(I:Inv X pins σ H s)(e:H d=some o)(nt:∀ xs,o≠.tup xs)(nw:∀ y,o≠.own y)(nz:∀ p u,X.H₀ d≠some (.frz p u))(nb:∀ ps,o≠.tbl ps)(new:ObjOk X.prog X.w (upd H d o') s.heap d o'):Inv X pins σ (upd H d o') s:=by
 have ntup:∀ b xs,H b=some (.tup xs)→b≠d:=λb xs q z=>by subst z;rw[q] at e;exact nt xs (Option.some.inj e).symm
 have nown:∀ b y,H b=some (.own y)→b≠d:=λb y q z=>by subst z;rw[q] at e;exact nw y (Option.some.inj e).symm
 have nn:∀ b,H b=none→b≠d:=λb q z=>by subst z;rw[q] at e;cases e
 have u:=I.base;refine⟨I.ok,I.os,I.bare,⟨u.keep,u.slot,λb ob q n hx=>?_,u.there,λb xs q=>?_,λb ob v q=>?_,λb ps q=>?_⟩,I.loc,I.cell,?_,λx c q=>?_,λp hp=>?_,λb ob q=>?_,I.len⟩
 ·have:=u.free b ob q n hx;rw[Z2 (nn b this)];exact this
 ·have:=u.tups b xs q;rw[Z2 (ntup _ _ this)];exact this
 ·have:=u.frzs b ob v q;rw[Z2 (λz=>by subst z;exact nz _ _ q)];exact this
 ·obtain⟨more,h⟩:=u.tbls b ps q;refine⟨more,?_⟩;rw[Z2 (λz=>by subst z;rw[h] at e;exact nb _ (Option.some.inj e).symm)];exact h
 ·rw[Z2 (nn _ I.free)];exact I.free
 ·have:=I.freeC x c q;rw[Z2 (nn _ this)];exact this
 ·obtain⟨a1,a2,a3⟩:=I.pin p hp;exact⟨a1,by rw[Z2 (nn _ a2)];exact a2,a3⟩
 ·by_cases hb:b=d
  ·subst hb;rw[Z1] at q;cases q;exact new
  ·rw[Z2 hb] at q;exact (I.hok b ob q).stay (λc v _ r=>r) (λc r=>by rw[Z2 (nown _ _ r)];exact r) λc xs r=>by rw[Z2 (ntup _ _ r)];exact r
theorem Inv.notfrz {o:HO}(I:Inv X pins σ H s)(e:H d=some o)(nf:∀ p u,o≠.frz p u):NF X d:=λp u q=>by
 have:=I.base.frzs d p u q;rw[e] at this;exact nf p u (Option.some.inj this)
theorem Inv.freeze {kvs:List (Key×V)}(I:Inv X pins σ H s)(e:H d=some (.dK kvs)):∃ o,Inv X pins σ (upd H d (.frz o (.dK kvs))) s∧NF X d:=by
 have nf:=I.notfrz e (by intro p u z;cases z);obtain⟨z,hd,vs,rel,dd⟩:=Z4m I.hok e;obtain⟨o,es,ep,h1,r⟩:=id dd;exact⟨o,I.retold e (by intro xs z;cases z) (by intro xs z;cases z) nf (by intro xs z;cases z) ⟨h1,z,hd,vs,rel,dd⟩,nf⟩
theorem Inv.thaw {o:Obj}{kvs:List (Key×V)}(I:Inv X pins σ H s)(e:H d=some (.frz o (.dK kvs)))(nf:NF X d):Inv X pins σ (upd H d (.dK kvs)) s:=by
 obtain⟨h1,h2⟩:=I.hok d _ e;exact I.retold e (by intro xs z;cases z) (by intro xs z;cases z) nf (by intro xs z;cases z) h2
end
noncomputable def Th (X:Cx)(H H':Hp):Prop:=H'=H∨∃ d o kvs,NF X d∧H d=some (.frz o (.dK kvs))∧H'=upd H d (.dK kvs)
theorem Th.inv {X:Cx}{pins:List (Addr×Obj)}{σ:St}{H H':Hp}{s:Shared}(t:Th X H H')(I:Inv X pins σ H s):Inv X pins σ H' s:=by
 rcases t with rfl|⟨d,o,kvs,nf,e,rfl⟩
 ·exact I
 ·exact I.thaw e nf
noncomputable def Z6H (X:Cx)(t:TE):TE:=λσ H Q=>t σ H λv H1=>∃ H2,Th X H1 H2∧Q v H2
noncomputable def Z6u (X:Cx)(D:Ends):Ends:={ nx:=λσ H=>∃ H2,Th X H H2∧D.nx σ H2,rt:=λv H=>∃ H2,Th X H H2∧D.rt v H2,bk:=λσ H=>∃ H2,Th X H H2∧D.bk σ H2,ct:=λσ H=>∃ H2,Th X H H2∧D.ct σ H2 }
noncomputable def Z8y (X:Cx)(t:TS):TS:=λD σ H=>t (Z6u X D) σ H
theorem Z6X {X:Cx}{e:Expr}{t:TE}(h:PE X e t):PE X e (Z6H X t):=λpins s σ H Q I q=>
 thn (h pins s σ H _ I q) λu s1 ⟨v,H1,I1,r,H2,th,q2⟩=>⟨v,H2,th.inv I1,r,q2⟩
theorem Z3r {X:Cx}{st:Stmt}{t:TS}(h:PS X st t):PS X st (Z8y X t):=λpins s σ H D I q=>
 thn (h pins s σ H _ I q) λf s1 z=>by
  cases f with
  | next=>obtain⟨σ',H',I',H2,th,q2⟩:=z;exact⟨σ',H2,th.inv I',q2⟩
  | brk=>obtain⟨σ',H',I',H2,th,q2⟩:=z;exact⟨σ',H2,th.inv I',q2⟩
  | cont=>obtain⟨σ',H',I',H2,th,q2⟩:=z;exact⟨σ',H2,th.inv I',q2⟩
  | ret u=>obtain⟨v,σ',H',I',r,H2,th,q2⟩:=z;exact⟨v,σ',H2,th.inv I',r,q2⟩
noncomputable def Jj (v d:Addr):HO:=.ext λh=>h.IsItemsView v d
noncomputable def Z4E (td:TE):TE:=λσ H Q=>td σ H λx H1=>∃ a kvs,x=.ref a∧Rd H1 a (.dK kvs)∧∀ v,H1 v=none→Q (.ref v) (upd H1 v (Jj v a))
theorem Z0z {X:Cx}{o:Expr}{apos cpos:Pos}{td:TE}(ho:PE X o td)(hbase:attributeBase o "items" X.env (eval o X.env)=eval o X.env:=by rfl)(hline:(apos.endLine == cpos.line)=true:=by rfl) :
 PE X (.Call (.Attribute o "items" apos) [] [] cpos) (Z4E td):=by
 intro pins s σ H Q I h;refine wpAny_Call_method0_late hbase hline (thn (ho pins s σ H _ I h) λu s1 zq=>?_);obtain⟨x,H1,I1,rx,a,kvs,ex,rd,q1⟩:=zq;subst ex;obtain rfl:u=Value.ref a:=rx;obtain⟨t1,t2,t3⟩:=Z4G I1 (.inl ⟨kvs,rd⟩);obtain⟨z,hd,vs,rel,dd⟩:=XX I1.hok rd;refine⟨"dict",_,PySem.F.plainAttrs_dict,PySem.F.slot_dict_items,PySem.F.type_dict_items,t1,t2,Calls.callWith_builtin rfl (PySem.evalArgs_none ?_)⟩;refine call_meetsIn PySem.F.slot_dict_items dd.typeIs PySem.F.entry_dict_items (PySem.F.args_dict_items_1 _) (meets_dict_items (Zv X.prog X.w) a hd) ⟨⟨vs,dd⟩,?_⟩;refine⟨.ref s1.heap.objs.size,_,I1.laid (t':=s1.toks) (λb ob e=>Heap.get?_push_of_some _ e) (Nat.le_refl _) (show ObjOk X.prog X.w _ _ _ (Jj _ a) from ?_),rfl,q1 _ (I1.hok.fresh (Nat.le_refl _))⟩;exact⟨⟨_,Heap.get?_push_size _ rfl,rfl,rfl⟩,⟨_,Heap.get?_push_size _ rfl⟩,λh1 h2 ⟨ob,e,r⟩ k=>⟨ob,k _ e,r⟩⟩
noncomputable def Itd (d:Addr)(o:Obj)(kvs:List (Key×V)):It:=
 ⟨λi H=>H d=some (.frz o (.dK kvs))∧i < kvs.length,
  λi H v H'=>∃ p k x,v=.ref p∧H p=none∧H'=upd H p (.tup [kV k,x])∧kvs[i]? = some (k,x),
  λi H=>H d=some (.frz o (.dK kvs))∧kvs.length≤i⟩
theorem KV.get {κ:Type}:∀ {kvs:List (κ×V)}{vs:List (κ×Value)}{i:Nat}{k:κ}{x:V},KV kvs vs→kvs[i]? = some (k,x)→∃ u,vs[i]? = some (k,u)∧RelV x u
 | _,_,_,_,_,.nil,e=>by simp at e
 | _,_,0,k,x,.cons (a:=p) (b:=q) ⟨r1,r2⟩ _,e=>by
   have e':p=(k,x):=by simpa using e
   subst e';obtain⟨q1,q2⟩:=q;dsimp only at r1 r2;subst r1;exact⟨q2,rfl,r2⟩
 | _,_,i + 1,_,_,.cons _ t,e=>by
   obtain⟨u,h1,h2⟩:=KV.get (i:=i) t (by simpa using e);exact⟨u,by simpa using h1,h2⟩
theorem Z7E {P:Program}{w:World}{k:Key}{key:Value}(h:(Zv P w).is k key=true):RelV (kV k) key:=by
 rw[Z3G] at h
 rcases ZO h with⟨i,t,rfl,rfl⟩|⟨x,t,rfl,rfl⟩
 ·exact⟨t,rfl⟩
 ·exact⟨t,rfl⟩
theorem Z4T {P:Program}{w:World}{H:Hp}{h:Heap}{d:Addr}{o:Obj}{kvs:List (Key×V)}{ep:Nat}{es:Array DictEntry}(hok:HOk P w H h)(e:H d=some (.frz o (.dK kvs)))(he:o.data=.dict es ep) :
 ∃ vs,KV kvs vs∧h.DictAt (Zv P w) d vs ep∧kvs.length≤sizeLine∧(d == sysModules)=false:=by
 obtain⟨h1,z,hd,vs,rel,o',es',ep',g1,g2,g3,g4⟩:=hok d _ e;rw[h1] at g1;cases g1;rw[he] at g3;cases g3;exact⟨vs,rel,⟨o,es,h1,g2,he,g4⟩,z,hd⟩
theorem Z3Z {P:Program}{w:World}{K:Frag}{elts:List Expr}{k:Nat}{pos:Pos}(d it:Addr)(o:Obj)(kvs:List (Key×V))(ep:Nat)(es:Array DictEntry)(he:o.data=.dict es ep) :
 Turn P w K (.Tuple elts k pos) (Itd d o kvs) [it] it (λi h=>∃ ok ov,IsItemIter h it d i kvs.length ep ok ov) where
 mem:=by simp
 obj:=λi h st b hb=>by
  have e:b=it:=by simpa using hb
  subst e;obtain⟨ok,ov,h1⟩:=st;exact⟨_,h1,λv z=>nomatch z⟩
 keep:=λi h h' st kk=>by
  obtain⟨ok,ov,h1⟩:=st;exact⟨ok,ov,kk it (by simp) _ h1⟩
 item:=by
  intro X hP hw hK hc i pins s σ H E I hf st hg;subst hP hw hK;obtain⟨ok,ov,h1⟩:=st;obtain⟨g1,g2⟩:=hg;obtain⟨vs,rel,da,hz,hd⟩:=Z4T I.hok g1 he;obtain⟨⟨kk,xx⟩,hx⟩:∃ p,kvs[i]? = some p:=⟨kvs[i],by simp[g2]⟩;obtain⟨u,hu,ru⟩:=rel.get hx;have ln:=rel.length;rw[ln] at h1;have nit:it≠d:=λz=>by
   have:=(hf it (by simp)).1;rw[z,g1] at this;cases this
  refine wpAny_pyNext_items_item h1 da hu λkey h' hk a1 a2 a3 a4=>⟨_,rfl,?_⟩;have hn:H s.heap.objs.size=none:=I.hok.fresh (Nat.le_refl _);have lt:it < s.heap.objs.size:=Heap.lt_size h1;have I1:Inv X pins σ (upd H s.heap.objs.size (.tup [kV kk,xx])) { s with heap:=h' }:=I.turnedLaid (t':=s.toks) (ch:=[it]) (λc ob hc e=>a4 c ob (by simpa using hc) e) hf (λc hc=>by rw[show c=it by simpa using hc];exact lt) (Nat.le_refl _)
   ⟨by simp only[List.length_cons,List.length_nil];rw[sizeLine_eq];decide,[key,u],.cons (Z7E hk) (.cons ru .nil),⟨_,a2,rfl,0,rfl⟩⟩
  refine wpAny_letOwnedTupleGo_items (s:={ s with heap:=h' }) a1 λh'' b1 b2=>?_;have fz:Xk X pins (upd H s.heap.objs.size (.tup [kV kk,xx])) it:=⟨by rw[Z2 (Nat.ne_of_lt lt)];exact (hf it (by simp)).1,(hf it (by simp)).2⟩;have I2:Inv X pins σ (upd H s.heap.objs.size (.tup [kV kk,xx])) { s with heap:=h'' }:=Inv.turnedN (s:={ s with heap:=h' }) (t':=s.toks) (ch:=[it]) I1 (λc ob hc e=>(b2.2 c (by simpa using hc)).trans e) λc hc=>by
   rw[show c=it by simpa using hc];exact fz
  refine⟨.ref s.heap.objs.size,_,I2,rfl,⟨s.heap.objs.size,kk,xx,rfl,hn,rfl,hx⟩,⟨_,_,by rw[ln];exact b1⟩,λc hc=>?_⟩;rw[show c=it by simpa using hc,Z2 (Nat.ne_of_lt lt)];exact (hf it (by simp)).1
 done:=by
  intro X hP hw hK hc i pins s σ H E I hf st hg;subst hP hw hK;obtain⟨ok,ov,h1⟩:=st;obtain⟨g1,g2⟩:=hg;obtain⟨vs,rel,da,hz,hd⟩:=Z4T I.hok g1 he;have ln:=rel.length;rw[ln] at h1 g2;obtain⟨f0,f1,f2,f3,f4,f5⟩:=hf it (by simp);exact wpAny_pyNext_items_end (I.ok.hd hc) h1 da (by simp;omega) λh' eb=>⟨rfl,I.turned (t':=s.toks) (λb ob hb e=>eb b ob hb e) f0 f1 f3 f4 f5⟩
 self:=λA i s Q E st h=>by
  obtain⟨ok,ov,hit⟩:=st;exact kcp_self hit h
noncomputable def Z5k (X:Cx)(tv:TE):TI:=λσ H R=>tv σ H λx H1=>∃ v d kvs,x=.ref v∧H1 v=some (Jj v d)∧
 ((H1 d=some (.dK kvs)∧∀ o,NF X d→R (Itd d o kvs) (upd H1 d (.frz o (.dK kvs))))∨∃ o,H1 d=some (.frz o (.dK kvs))∧R (Itd d o kvs) H1)
theorem piD {X:Cx}{l:Expr}{tl:TE}{elts:List Expr}{k:Nat}{tpos:Pos}(hl:PE X l tl):PI X (.Tuple elts k tpos) l (Z5k X tl):=by
 intro pins s σ H R I h;refine thn (hl pins s σ H _ I h) λvv s1 zq=>?_;obtain⟨x,H1,I1,r1,v,d,kvs,ex,hv,q1⟩:=zq;subst ex;cases r1;obtain⟨view,_⟩:=I1.hok v _ hv;obtain⟨o,H2,I2,e2,q2⟩:∃ o H2,Inv X pins σ H2 s1∧H2 d=some (.frz o (.dK kvs))∧R (Itd d o kvs) H2:=by
  rcases q1 with⟨e,q⟩|⟨o,e,q⟩
  ·obtain⟨o,J,nf⟩:=I1.freeze e;exact⟨o,_,J,Z1,q o nf⟩
  ·exact⟨o,H1,I1,e,q⟩
 obtain⟨g1,z,hd,vs,rel,o',es,ep,f1,f2,f3,f4⟩:=I2.hok d _ e2;rw[g1] at f1;cases f1;have da:s1.heap.DictAt (Zv X.prog X.w) d vs ep:=⟨o,es,g1,f2,f3,f4⟩;refine wpAny_pyIter_items view da ?_;refine⟨s1.heap.objs.size,[s1.heap.objs.size],_,_,H2,rfl,I2.kept (t':=s1.toks) λb ob e=>Heap.get?_push_of_some _ e,Z3Z d _ o kvs ep es f3,⟨_,_,by rw[rel.length];exact Heap.get?_push_size _ rfl⟩,λb hb=>?_,q2⟩;rw[show b=s1.heap.objs.size by simpa using hb];exact I2.fpOk (Nat.le_refl _) (I2.hok.fresh (Nat.le_refl _))
end L2
namespace PySem.W
open PySem PySem.Calls PyProof.Rows
noncomputable def KasT.run {α:Type}(lt:Nat→Nat→Bool):KasT α→α
 | .ret a=>a
 | .ask i j k=>(k (lt i j)).run lt
noncomputable def KasT.Ok {α:Type}(n:Nat)(R:α→Prop):KasT α→Prop
 | .ret a=>R a
 | .ask i j k=>i < n∧j < n∧∀ b,(k b).Ok n R
theorem KasT.Ok.bind {α β:Type}{n:Nat}{R:α→Prop}{R':β→Prop}{f:α→KasT β}(hf:∀ a,R a→(f a).Ok n R'):∀ {t:KasT α},t.Ok n R→(t.bind f).Ok n R'
 | .ret a,h=>hf a h
 | .ask i j k,h=>⟨h.1,h.2.1,λb=>KasT.Ok.bind hf (h.2.2 b)⟩
theorem KasT.Ok.res {α:Type}{n:Nat}{R:α→Prop}{lt:Nat→Nat→Bool}:∀ {t:KasT α},t.Ok n R→R (t.run lt)
 | .ret a,h=>h
 | .ask i j k,h=>KasT.Ok.res (t:=k (lt i j)) (h.2.2 (lt i j))
theorem KasT.Ok.wp {α:Type}{n:Nat}{R:α→Prop}{lt:Nat→Nat→Bool}{cmp:Nat→Nat→(Bool→Shared→Prop)→Shared→Prop}{Q:α→Shared→Prop}{s:Shared}(hc:∀ i j (C:Bool→Shared→Prop),i < n→j < n→C (lt i j) s→cmp i j C s) :
 ∀ {t:KasT α},t.Ok n R→Q (t.run lt) s→t.kasWp cmp Q s
 | .ret a,_,q=>q
 | .ask i j k,h,q=>hc i j _ h.1 h.2.1 (KasT.Ok.wp hc (h.2.2 (lt i j)) q)
noncomputable def Bd (n m:Nat)(p:Array Nat):Prop:=p.size=m∧∀ i,p.getD i 0 < n
theorem Bd.perm {n m:Nat}{p p':Array Nat}(h:Bd n m p)(q:p'.Perm p):Bd n m p':=by
 refine⟨q.size_eq.trans h.1,λi=>?_⟩;have h0:0 < n:=Nat.lt_of_le_of_lt (Nat.zero_le _) (h.2 0)
 by_cases hi:i < p'.size
 ·have e:p'.getD i 0=p'[i]:=by simp[Array.getD,hi]
  rw[e];have hm:p'[i]∈p:=q.mem_iff.mp (Array.getElem_mem hi);obtain⟨j,hj,ej⟩:=Array.mem_iff_getElem.mp hm;have:=h.2 j;have e2:p.getD j 0=p[j]:=by simp[Array.getD,hj]
  rw[e2,ej] at this;exact this
 ·have e:p'.getD i 0=0:=by simp[Array.getD,hi]
  rw[e];exact h0
theorem Bd.rev {n m:Nat}{p:Array Nat}(h:Bd n m p)(i j:Nat):Bd n m (kas_rev p i j):=h.perm (mirror_perm _ _ _ _)
theorem Bd.bub {n m:Nat}{p:Array Nat}(h:Bd n m p)(i j:Nat):Bd n m (bubble p i j):=h.perm (bubble_perm _ _ _)
theorem Z23 {n m:Nat}{p:Array Nat}(h:Bd n m p):∀ f k,(kas_asc p f k).Ok n λ_=>True
 | 0,k=>True.intro
 | f + 1,k=>⟨h.2 _,h.2 _,λb=>by
   cases b with
   | true=>exact True.intro
   | false=>exact Z23 h f (k + 1)⟩
theorem Z0j {n m:Nat}:∀ f p k q,Bd n m p→(kas_desc f p k q).Ok n λr=>Bd n m r.1
 | 0,p,k,q,h=>h
 | f + 1,p,k,q,h=>⟨h.2 _,h.2 _,λb=>by
   cases b with
   | true=>
     show KasT.Ok n _ (if q > 0 then kas_desc f (kas_rev p (k - (q + 1)) k) (k + 1) 0 else kas_desc f p (k + 1) 0)
     by_cases hq:q > 0
     ·rw[if_pos hq];exact Z0j f _ _ _ (h.rev _ _)
     ·rw[if_neg hq];exact Z0j f _ _ _ h
   | false=>
     refine⟨h.2 _,h.2 _,λd=>?_⟩;cases d with
     | true=>exact h
     | false=>exact Z0j f _ _ _ h⟩
theorem Z2X {n m:Nat}{p:Array Nat}(h:Bd n m p)(k r:Nat):(kas_tail3 k r p).Ok n λq=>Bd n m q.2:=by
 unfold kas_tail3;refine KasT.Ok.bind (R:=λ_=>True) (λa _=>?_) (Z23 (h.rev _ _) _ _);exact h.rev _ _
theorem Z0t {n m:Nat}{p:Array Nat}(h:Bd n m p)(k r:Nat):(kas_descPart k r p).Ok n λq=>Bd n m q.2:=by
 unfold kas_descPart;refine KasT.Ok.bind (λa ha=>?_) (Z0j _ _ _ _ h)
 split
 ·exact Z2X (Bd.rev ha _ _) _ _
 ·exact Z2X ha _ _
theorem Z5v {n m:Nat}{p:Array Nat}(h:Bd n m p)(r:Nat):(kas_count r p).Ok n λq=>Bd n m q.2:=by
 unfold kas_count;refine KasT.Ok.bind (R:=λ_=>True) (λa _=>?_) (Z23 h _ _)
 split
 ·exact h
 ·split
  ·refine⟨h.2 _,h.2 _,λb=>?_⟩;cases b with
   | true=>exact h
   | false=>exact Z0t (h.rev _ _) _ _
  ·exact Z0t h _ _
theorem Z0M {n m:Nat}{p:Array Nat}(h:Bd n m p)(k:Nat):∀ f l r,(kas_place p k f l r).Ok n λ_=>True
 | 0,l,r=>True.intro
 | f + 1,l,r=>by
   show KasT.Ok n _ (if l ≥ r then .ret l else _)
   split
   ·exact True.intro
   ·refine⟨h.2 _,h.2 _,λb=>?_⟩;cases b with
    | true=>exact Z0M h k f _ _
    | false=>exact Z0M h k f _ _
theorem Z53 {n m:Nat}:∀ f p k,Bd n m p→(kas_bin f p k).Ok n λq=>Bd n m q
 | 0,p,k,h=>h
 | f + 1,p,k,h=>KasT.Ok.bind (R:=λ_=>True) (λa _=>Z53 f _ _ (h.bub _ _)) (Z0M h k _ _ _)
theorem Jx {n:Nat}(h0:0 < n):(kas_sort n).Ok n λq=>Bd n n q:=by
 unfold kas_sort;have hr:Bd n n (List.toArray (List.range n)):=⟨by simp,λi=>by
  by_cases hi:i < n
  ·simp[Array.getD,hi]
  ·simp[Array.getD,hi,h0]⟩
 refine KasT.Ok.bind (λa ha=>?_) (Z5v hr n)
 split
 ·exact Z53 _ _ _ ha
 ·exact ha
noncomputable def sortP (lt:Nat→Nat→Bool)(n:Nat):List Nat:=if n < 2 then List.range n else ((kas_sort n).run lt).toList
theorem sortP_length (lt:Nat→Nat→Bool)(n:Nat):(sortP lt n).length=n:=by
 unfold sortP
 split
 ·simp
 ·rename_i h;have:=(Jx (n:=n) (by omega)).res (lt:=lt);rw[Array.length_toList];exact this.1
theorem sortP_lt (lt:Nat→Nat→Bool)(n:Nat):∀ i∈sortP lt n,i < n:=by
 unfold sortP
 split
 ·intro i hi;exact List.mem_range.mp hi
 ·rename_i h;intro i hi;have:=(Jx (n:=n) (by omega)).res (lt:=lt);obtain⟨j,hj,e⟩:=Array.mem_iff_getElem.mp (Array.mem_toList_iff.mp hi);have q:=this.2 j;have e2:((kas_sort n).run lt).getD j 0=((kas_sort n).run lt)[j]:=by simp[Array.getD,hj]
  rw[e2,e] at q;exact q
end PySem.W
namespace PyProof.Rows
open PySem
section
variable {prog:Program}{w:World}{A:Around}{E:Value→Shared→Prop}{s:Shared}
theorem Z5K {b:Addr}{xs:List Value}{ep:Nat}{P:PySem.Fin→Shared→Prop}(hb:s.heap.get? b=some (seqObj "list" xs.toArray ep))(few:xs.length < 2)
 (q:P (.done (.ret .none)) { s with heap:=sortedHeap s.heap b xs xs.toArray }):wpAny (model prog w) A (Builtin.«list.sort» ⟨[.ref b],[]⟩) P E s:=by
 rw[list_sort_plain];have lt:b < s.heap.objs.size:=Heap.lt_size hb;refine wpAny_bind (listItems_at hb rfl ?_);refine wpAny_bind (listUpdate_at hb rfl ?_);obtain⟨e1,g1⟩:∃ e1,(s.heap.update b (Obj.mapSeq λ_=>#[])).get? b=some (seqObj "list" #[] e1):=⟨_,get?_update_seq hb (λ_=>#[])⟩;refine wpAny_bind (seqEpoch_at g1 rfl ?_);refine wpAny_bind (wpAny_newTuple ?_ (by rw[sizeLine_eq];simp;omega));refine wpAny_bind (wpAny_newList ?_);refine wpAny_holding ?_;have g6:(((s.heap.update b (Obj.mapSeq λ_=>#[])).push (seqObj "tuple" xs.toArray 0)).push (seqObj "list" #[] 0)).get? b=some (seqObj "list" #[] e1):=by
  rw[Heap.get?_push_ne _ _ _ (by rw[size_push',Heap.size_update];exact Nat.ne_of_lt (Nat.lt_succ_of_lt lt)),Heap.get?_push_ne _ _ _ (by rw[Heap.size_update];exact Nat.ne_of_lt lt)];exact g1
 show wpAny (model prog w) A _ P E { s with heap:=((s.heap.update b (Obj.mapSeq λ_=>#[])).push (seqObj "tuple" xs.toArray 0)).push (seqObj "list" #[] 0) };dsimp only;have h2:xs.toArray.size < 2:=by simpa using few
 rw[if_pos h2,if_pos h2];refine wpAny_bind (wpAny_pure ?_);rw[StateT.run_pure];refine wpAny_bind (wpAny_pure ?_);dsimp only;refine wpAny_bind (seqEpoch_at g6 rfl ?_);refine wpAny_bind (listUpdate_at g6 rfl ?_ (hsz2:=by rw[Array.size_map];show (pairsOf xs).size≤_;rw[pairsOf_size,sizeLine_eq];omega));simp only[bne_self_eq_false,Bool.false_eq_true,if_false];refine wpAny_pure ?_;have e:(arrOf (SortSt.mk' general' (xs.toArray.zip xs.toArray) #[] 7 none)).map (·.2)=xs.toArray:=by
  show (xs.toArray.zip xs.toArray).map (·.2)=xs.toArray;refine Array.ext (by simp) λi h1 h2=>by simp
 have q2:=q;rw[←e] at q2;exact q2
theorem Z0O {l:Addr}{xs:List Value}{Q:Value→Shared→Prop}(hl:s.heap.IsList l xs.toArray)(few:xs.length < 2)(q:Q (.ref (s.heap.objs.size + 1)) { s with heap:=sortedAll s.heap xs xs.toArray }) :
 wpAny (model prog w) A (call (.builtin "sorted") [.ref l]) Q E s:=by
 refine Calls.call_function_entry kind_sorted plain_sorted entry_sorted (args_sorted1 _) ?_;unfold Builtin.«sorted»;refine wpAny_bind (m:=checkCount "sorted" 1 1 _) (wpAny_pure ?_);refine wpAny_bind (collect_list hl ?_ (by rw[sizeLine_eq];omega));refine wpAny_bind (wpAny_newList ?_ (by rw[sizeLine_eq];omega));have sz:((s.heap.push (seqObj "list" #[] 0)).update s.heap.objs.size (Obj.mapSeq (·++xs.toArray))).objs.size=s.heap.objs.size + 1:=by rw[Heap.size_update,size_push']
 have at1:(((s.heap.push (seqObj "list" #[] 0)).update s.heap.objs.size (Obj.mapSeq (·++xs.toArray))).push (seqObj "list" xs.toArray 0)).get? (s.heap.objs.size + 1)=some (seqObj "list" xs.toArray 0):=by
  rw[←sz];exact Heap.get?_push_size _ rfl
 show wpAny _ _ _ _ _ { s with heap:=((s.heap.push (seqObj "list" #[] 0)).update s.heap.objs.size (Obj.mapSeq (·++xs.toArray))).push (seqObj "list" xs.toArray 0) };rw[sz];refine wpAny_bind (wpAny_holding (wpAny_call_entry slot_list_sort ⟨_,at1,rfl⟩ entry_list_sort (Z5K at1 few ⟨_,rfl,?_⟩) (args_list_sort _)));exact wpAny_pure ⟨_,rfl,q⟩
end
end PyProof.Rows
namespace L2
open PySem PySem.Spec PyProof.Rows PySem.W
section
variable {X:Cx}{pins:List (Addr×Obj)}{σ:St}{H:Hp}{s:Shared}
theorem Inv.byNews {D:Addr}{ob:Obj}{o:HO}{m:Str→Option Value}{h':Heap}{t':Nat}(I:Inv X pins σ H s)(F:Fr X.base X.env.locals s.heap m)(F':Fr X.base X.env.locals h' m)
 (N':News X.base X.env.locals h' ((D,ob)::Xl X.base s.heap X.env.locals)) (lt:∀ q∈Xl X.base s.heap X.env.locals,q.1 < D) (new:ObjOk X.prog X.w (upd H D o) h' D o) :
 Inv X pins σ (upd H D o) { s with heap:=h',toks:=t' }∧H D=none:=by
 obtain⟨n1,n2,n3⟩:=N' (D,ob) (.head _);have nD:s.heap.get? D=none:=by
  cases e:s.heap.get? D with
  | none=>rfl
  | some u=>exact absurd (lt (D,u) (YG n2 n3 e)) (Nat.lt_irrefl _)
 have hD:=I.gone nD;have kk:∀ b u,b≠X.env.locals→s.heap.get? b=some u→h'.get? b=some u:=λb u hb e=>by
  cases q:X.base.get? b with
  | some v=>
    have:=I.bk b v q;rw[e] at this;cases this;exact F'.keep b _ q
  | none=>exact (N' (b,u) (.tail _ (YG hb q e))).1
 have ne:∀ b u,s.heap.get? b=some u→b≠D:=λb u e z=>by rw[z,nD] at e;cases e
 have ne':∀ b u,H b=some u→b≠D:=λb u e z=>by rw[z,hD] at e;cases e
 have nL:∀ b u,H b=some u→b≠X.env.locals:=λb u e z=>by rw[z,I.free] at e;cases e
 refine⟨I.step (g':=s.gens) (d':=s.drawn) (ch:=[]) (λ_ z=>nomatch z) (λb u hb _ _ e _=>kk b u hb e) (λb u hb _ _ e _=>⟨u.slots,kk b u hb e⟩) (λb u _ e z=>by rw[Z2 (ne b u e)];exact z) (λb u _ e=>?_)
  (λb xs e=>by rw[Z2 (ne' _ _ e)];exact e) (λb u v e=>by rw[Z2 (ne' _ _ e)];exact e) (λb ps e=>⟨#[],by rw[Z2 (ne' _ _ e)];simpa using e⟩) (λm1 hm=>?_) (λb u e=>?_) I.bare,hD⟩
 ·by_cases hb:b=X.env.locals
  ·obtain⟨o',_,_,ho',_⟩:=F'.ns;exact⟨o',by rw[hb];exact ho'⟩
  ·exact⟨u,kk b u hb e⟩
 ·have em:m=m1:=by
   obtain⟨o1,es1,ep1,a1,a2,a3,a4⟩:=F.ns;obtain⟨o2,es2,ep2,b1,b2,b3,b4⟩:=hm;rw[a1] at b1;cases b1;rw[a2] at b2;cases b2
   funext x
   rw[←a4,←b4]
  rw[←em];exact F'.ns
 ·by_cases hb:b=D
  ·subst hb;rw[Z1] at e;cases e;exact new
  ·rw[Z2 hb] at e;refine (I.hok b u e).stay (λc v hc q=>kk c v ?_ q) (λc q=>by rw[Z2 (ne' _ _ q)];exact q) λc xs q=>by rw[Z2 (ne' _ _ q)];exact q
   rcases hc with rfl|hc
   ·exact nL _ _ e
   ·exact nL _ _ hc
theorem Z2h {xs:List V}{its:List Value}(I:Inv X pins σ H s)(r:Vals xs its)(few:xs.length < 2):Inv X pins σ (upd H (s.heap.objs.size + 1) (.lst xs)) { s with heap:=sortedAll s.heap its its.toArray }:=by
 obtain⟨e,he⟩:=sortedAll_at s.heap its its.toArray;exact I.laid (t':=s.toks) (λ_ _=>sortedAll_old) (Nat.le_succ _) ⟨ZC (by omega),its,e,r,he⟩
end
noncomputable def ltS (zs:List Str)(i j:Nat):Bool:=decide ((zs.getD i Str.empty).cps.toList < (zs.getD j Str.empty).cps.toList)
noncomputable def Yg (zs:List Str):List Str:=(sortP (ltS zs) zs.length).map λi=>zs.getD i Str.empty
theorem Js {α:Type}(d:α):∀ (xs:List α),(List.range xs.length).map (λi=>xs.getD i d)=xs:=λxs=>by
 refine List.ext_getElem (by simp) λi h1 h2=>?_;simp at h1;simp[h1]
theorem Z1E {lt:Nat→Nat→Bool}{n:Nat}(h:n < 2):sortP lt n=List.range n:=by unfold sortP;rw[if_pos h]
theorem XO:∀ {xs:List V}{us:List Value}{i:Nat},Vals xs us→i < xs.length→RelV (xs.getD i .non) (us.getD i .none):=fun {xs us i} r h=>by
 have h':i < us.length:=by rw[←r.length];exact h
 obtain⟨u,e,ru⟩:=r.get (i:=i) (x:=xs[i]) (by simp[h]);have e1:xs.getD i .non=xs[i]:=by simp[h]
 have e2:us.getD i .none=u:=by rw[List.getD_eq_getElem?_getD,e];rfl
 rw[e1,e2];exact ru
theorem JU {xs:List V}{us:List Value}(r:Vals xs us):∀ (ps:List Nat),(∀ i∈ps,i < xs.length)→Vals (ps.map λi=>xs.getD i .non) (ps.map λi=>us.getD i .none)
 | [],_=>.nil
 | p::ps,h=>.cons (XO r (h p (.head _))) (JU r ps λi hi=>h i (.tail _ hi))
section
variable {X:Cx}
theorem Z3F {K:Frag}(hK:X.K=K):YA X (.builtin "sorted") (λxs H Q=>∃ (l:Addr) (zs:List Str),xs=[.ref l]∧SqL K H l (zs.map V.str)∧zs.length < 64∧∀ p,H p=none→Q (.ref p) (upd H p (.lst ((Yg zs).map V.str)))):=by
 subst hK;intro pins s σ H xs us Q I r h;obtain⟨l,zs,rfl,hl,h64,q⟩:=h;obtain⟨u,rfl,rx⟩:=Xc r;cases rx;obtain⟨its,rv,p,hz⟩:=I.list hl;have ln:=rv.length;rw[List.length_map] at ln;have gd:∀ i,i < zs.length→(zs.map V.str).getD i .non=V.str (zs.getD i Str.empty):=λi hi=>by simp[hi]
 have eo:(Yg zs).map V.str=(sortP (ltS zs) zs.length).map λi=>(zs.map V.str).getD i .non:=by
  unfold Yg;rw[List.map_map];exact List.map_congr_left λi hi=>(gd i (sortP_lt _ _ i hi)).symm
 by_cases few:zs.length < 2
 ·have e:(Yg zs).map V.str=zs.map V.str:=by
   unfold Yg;rw[Z1E few,Js]
  refine Z0O p.isList (by omega) ⟨.ref (s.heap.objs.size + 1),_,?_,rfl,q _ (I.hok.fresh (Nat.le_succ _))⟩;rw[e];exact Z2h I rv (by simpa using few)
 ·obtain⟨m,F⟩:=I.fr;refine kas_sorted (T:=.type "str") F Xw p.isList (by omega) (by omega) (λh' _ _ v hv=>?_) (by decide) λD e1 h' F' N' lt=>?_
  ·obtain⟨ll,e1,e2⟩:=Z1r rv;rw[e1] at hv;obtain⟨pr,_,rfl⟩:=List.mem_map.mp hv;exact Looks.of_pure rfl
  ·rw[←ln];refine (Jx (n:=zs.length) (by omega)).wp (lt:=ltS zs) (λi j C hi hj c=>?_) ?_
   ·have ri:=XO rv (i:=i) (by simpa using hi);have rj:=XO rv (i:=j) (by simpa using hj);rw[gd i hi] at ri;rw[gd j hj] at rj;obtain⟨ti,ei⟩:=ri;obtain⟨tj,ej⟩:=rj;unfold kas_ask;rw[ei,ej];exact kas_lt_str c
   ·refine KasFin.intro F' N' (.head λq hq=>Nat.ne_of_lt (lt q hq)) λh'' c F'' N''=>?_;have vp:=JU rv (sortP (ltS zs) zs.length) λi hi=>by rw[List.length_map];exact sortP_lt _ _ i hi
    rw[←eo] at vp;have e2:((kas_sort zs.length).run (ltS zs)).toList=sortP (ltS zs) zs.length:=by unfold sortP;rw[if_neg few]
    rw[e2] at N'';obtain⟨J,hD⟩:=I.byNews (t':=s.toks) (o:=.lst ((Yg zs).map V.str)) F F'' N'' lt ⟨ZC (by unfold Yg;rw[List.length_map,List.length_map,sortP_length];omega),_,c,vp,(N'' _ (.head _)).1⟩;exact⟨.ref D,_,J,rfl,q D hD⟩
end
noncomputable def Z81:V→Bool
 | .int _=>true
 | .str _=>true
 | _=>false
noncomputable def Z4l (h:Heap)(a:Addr)(z:Str):Prop:=∃ o us n t,h.get? a=some o∧o.cls=.type "tuple"∧o.data=.seq (Value.str z t::us).toArray n∧∀ u∈us,(∃ i t,u=Value.int i t)∨∃ x t,u=Value.str x t
theorem Z3q:∀ {r:List V}{us:List Value},Vals r us→(∀ v∈r,Z81 v=true)→∀ u∈us,(∃ i t,u=Value.int i t)∨∃ x t,u=Value.str x t
 | _,_,.nil,_,u,hu=>by simp at hu
 | _,_,.cons (a:=v) rv t,h,u,hu=>by
   rcases List.mem_cons.mp hu with rfl|hu
   ·have:=h v (.head _);cases v<;>first|cases this|skip
    ·obtain⟨t,e⟩:=rv;exact .inl ⟨_,t,e⟩
    ·obtain⟨t,e⟩:=rv;exact .inr ⟨_,t,e⟩
   ·exact Z3q t (λw hw=>h w (.tail _ hw)) u hu
section
variable {prog:Program}{w:World}{A:Around}{s:Shared}{b fin:Bool}{C:Bool→Shared→Prop}
theorem Z2m (q:C fin s):∀ (us:List Value) (k:Nat),(∀ u∈us,(∃ i t,u=Value.int i t)∨∃ x t,u=Value.str x t)→KatLex prog w A b fin C (us.zip us) k s
 | [],k,_=>kat_nil q
 | u::us,k,h=>by
   refine kat_cons ?_;have YW:=Z2m q us (k + 1) λv hv=>h v (.tail _ hv)
   rcases h u (.head _) with⟨i,t,rfl⟩|⟨x,t,rfl⟩
   ·refine wpAny_eqBool_int ?_;rw[beq_self_eq_true];exact kat_yes YW
   ·refine wpAny_eqBool_str ?_;rw[decide_eq_true rfl];exact kat_yes YW
end
theorem Z8a {h:Heap}:∀ (ps:List Addr) (us:List Value) (zs:List Str),Vals (ps.map V.ref) us→ps.length=zs.length→(∀ i,i < zs.length→Z4l h (ps.getD i 0) (zs.getD i Str.empty))→∃ fs,KatTups h us fs∧fs.length=zs.length∧∀ v∈fs,∃ z t,v=Value.str z t
 | [],_,[],.nil,_,_=>⟨[],.nil,rfl,λv hv=>by simp at hv⟩
 | [],_,_::_,_,l,_=>by simp at l
 | _::_,_,[],_,l,_=>by simp at l
 | p::ps,_,z::zs,.cons rv t,l,h=>by
   obtain⟨fs,h1,h2,h3⟩:=Z8a ps _ zs t (by simpa using l) λi hi=>by simpa using h (i + 1) (by simpa using hi)
   obtain⟨o,vs,n,tk,e1,e2,e3,e4⟩:=h 0 (by simp);have ev:=(show _=Value.ref p from rv);subst ev;refine⟨.str z tk::fs,KatTups.cons (f:=.str z tk) (by simpa using e1) e2 e3 (by simp) h1,by simp[h2],λv hv=>?_⟩
   rcases List.mem_cons.mp hv with rfl|hv
   ·exact⟨z,tk,rfl⟩
   ·exact h3 v hv
theorem Z41 {zs:List Str}(nd:zs.Nodup){i j:Nat}(hi:i < zs.length)(hj:j < zs.length)(e:zs.getD i Str.empty=zs.getD j Str.empty):i=j:=by
 have e1:zs.getD i Str.empty=zs[i]:=by simp[hi]
 have e2:zs.getD j Str.empty=zs[j]:=by simp[hj]
 rw[e1,e2] at e;have pw:=List.pairwise_iff_getElem.mp nd
 rcases Nat.lt_trichotomy i j with z|z|z
 ·exact absurd e (pw i j hi hj z)
 ·exact z
 ·exact absurd e.symm (pw j i hj hi z)
section
variable {X:Cx}
theorem Z4g {K:Frag}(hK:X.K=K):YA X (.builtin "sorted") (λxs H Q=>∃ (l:Addr) (ps:List Addr) (zs:List Str),xs=[.ref l]∧SqL K H l (ps.map V.ref)∧ps.length=zs.length∧zs.length < 64∧zs.Nodup∧
 (∀ i,i < zs.length→∃ r,H (ps.getD i 0)=some (.tup (.str (zs.getD i Str.empty)::r))∧∀ v∈r,Z81 v=true)∧∀ p,H p=none→Q (.ref p) (upd H p (.lst ((sortP (ltS zs) zs.length).map λi=>V.ref (ps.getD i 0))))):=by
 subst hK;intro pins s σ H xs us Q I r h;obtain⟨l,ps,zs,rfl,hl,lp,h64,nd,ht,q⟩:=h;obtain⟨u,rfl,rx⟩:=Xc r;cases rx;obtain⟨its,rv,p,hz⟩:=I.list hl;have ln:=rv.length;rw[List.length_map,lp] at ln;have gd:∀ i,i < zs.length→(ps.map V.ref).getD i .non=V.ref (ps.getD i 0):=λi hi=>by
  have:i < ps.length:=by omega
  simp[this]
 have eo:((sortP (ltS zs) zs.length).map λi=>V.ref (ps.getD i 0))=(sortP (ltS zs) zs.length).map λi=>(ps.map V.ref).getD i .non:=List.map_congr_left λi hi=>(gd i (sortP_lt _ _ i hi)).symm
 by_cases few:zs.length < 2
 ·have e:((sortP (ltS zs) zs.length).map λi=>V.ref (ps.getD i 0))=ps.map V.ref:=by
   rw[eo,Z1E few,←lp];have:=Js V.non (ps.map V.ref);rw[List.length_map] at this;exact this
  refine Z0O p.isList (by omega) ⟨.ref (s.heap.objs.size + 1),_,?_,rfl,q _ (I.hok.fresh (Nat.le_succ _))⟩;rw[e];exact Z2h I rv (by rw[List.length_map];omega)
 ·obtain⟨m,F⟩:=I.fr;have tup0:∀ i,i < zs.length→Z4l s.heap (ps.getD i 0) (zs.getD i Str.empty)∧ps.getD i 0≠X.env.locals:=λi hi=>by
   obtain⟨rr,e,sc⟩:=ht i hi;obtain⟨_,vs,rvs,o,e1,e2,n,e3⟩:=I.hok _ _ e;cases rvs with
   | cons r1 r2=>
     obtain⟨t,rfl⟩:=r1;exact⟨⟨o,_,n,t,e1,e2,e3,Z3q r2 sc⟩,λz=>by rw[z,I.free] at e;cases e⟩
  refine kat_sorted F Xw p.isList (by omega) (by omega) λD e1 h' F' N' lt=>?_;have tup1:∀ i,i < zs.length→Z4l h' (ps.getD i 0) (zs.getD i Str.empty):=λi hi=>by
   obtain⟨⟨o,vs,n,t,a1,a2⟩,nl⟩:=tup0 i hi;refine⟨o,vs,n,t,?_,a2⟩;cases z:X.base.get? (ps.getD i 0) with
   | some v=>
     have:=I.bk _ v z;rw[a1] at this;cases this;exact F'.keep _ _ z
   | none=>exact (N' (ps.getD i 0,o) (.tail _ (YG nl z a1))).1
  obtain⟨fs,k1,k2,k3⟩:=Z8a ps its zs rv lp tup1;refine kat_kind (s:={ s with heap:=h' }) (T:=.type "str") k1 (by omega) (λv hv=>by obtain⟨z,t,rfl⟩:=k3 v hv;exact Looks.of_pure rfl) (by decide) ?_;rw[←ln];refine (Jx (n:=zs.length) (by omega)).wp (lt:=ltS zs) (λi j C hi hj c=>?_) ?_
  ·have ri:=XO rv (i:=i) (by rw[List.length_map];omega);have rj:=XO rv (i:=j) (by rw[List.length_map];omega);rw[gd i hi] at ri;rw[gd j hj] at rj;unfold kas_ask;rw[show its.getD i Value.none=Value.ref (ps.getD i 0) from ri,show its.getD j Value.none=Value.ref (ps.getD j 0) from rj];obtain⟨o1,v1,n1,t1,a1,a2,a3,a4⟩:=tup1 i hi;obtain⟨o2,v2,n2,t2,b1,b2,b3,b4⟩:=tup1 j hj;refine kat_lt (s:={ s with heap:=h' }) a1 a3 b1 b3 ?_
   by_cases hij:i=j
   ·subst hij;rw[a1] at b1;cases b1;rw[a3] at b3;have ev:(Value.str (zs.getD i Str.empty) t1::v1)=(Value.str (zs.getD i Str.empty) t2::v2):=by
     injection b3 with e _
     exact congrArg Array.toList e
    rw[←ev];have el:ltS zs i i=false:=by
     unfold ltS;exact decide_eq_false (List.lt_irrefl _)
    rw[el] at c;refine Z2m (fin:=decide _) ?_ _ 0 λu hu=>?_
    ·rw[decide_eq_false (Nat.lt_irrefl _)];exact c
    ·rcases List.mem_cons.mp hu with rfl|hu
     ·exact .inr ⟨_,_,rfl⟩
     ·exact a4 u hu
   ·refine kat_cons (wpAny_eqBool_str ?_);rw[decide_eq_false λe=>hij (Z41 nd hi hj e)];refine kat_no ?_;exact oneLt_str c
  ·refine KasFin.intro F' N' (.head λq hq=>Nat.ne_of_lt (lt q hq)) λh'' c F'' N''=>?_;have vp:=JU rv (sortP (ltS zs) zs.length) λi hi=>by rw[List.length_map];have:=sortP_lt _ _ i hi;omega
   rw[←eo] at vp;have e2:((kas_sort zs.length).run (ltS zs)).toList=sortP (ltS zs) zs.length:=by unfold sortP;rw[if_neg few]
   rw[e2] at N'';obtain⟨J,hD⟩:=I.byNews (t':=s.toks) (o:=.lst ((sortP (ltS zs) zs.length).map λi=>V.ref (ps.getD i 0))) F F'' N'' lt ⟨ZC (by rw[List.length_map,sortP_length];omega),_,c,vp,(N'' _ (.head _)).1⟩;exact⟨.ref D,_,J,rfl,q D hD⟩
end
structure FnOkM (P:Program)(w:World)(K:Frag)(mg:Str→Option Value)(base:Heap)(k:Nat)(f:Addr)(fd:FuncData)(ps:List Str)(sp:Sp):Prop where
 len:∀ vs H Q E,sp vs H Q E→vs.length=ps.length
 run:∀ (A:Around) (y:Addr) (outer:List Env) (s:Shared) (H:Hp) (args:Args) (us:List Value) (vs:List V) (Q:VK),Room k A→Env0 P w K mg base A outer s H→BindsTo s fd args (ps.zip us)→Vals vs us→sp vs H Q E0→
  codeAny (model P w) (A.mark (some (.ref y))) (.call (.ref f) args) (CR CX0 outer P w H s Q E0) s
section
variable {P:Program}{w:World}{K:Frag}{mg:Str→Option Value}{base:Heap}
theorem Fun.okM {x qual:Str}{st:Stmt}{f:Addr}{fd:FuncData}{N ps:List Str}{k:Nat}{sp:Sp}(F:Fun K x qual st f fd)(S:FnScope N ps (Z3 st))(len:∀ vs H Q E,sp vs H Q E→vs.length=ps.length)
 (hbody:∀ (cdv:Value) (A:Around) (y:Addr) (outer:List Env) (s:Shared) (H:Hp) (vs:List V) (Q:VK),Room k (A.deeper (envOfC qual (Z3 st) s.heap.objs.size f cdv))→sp vs H Q E0→
   ∃ t,PSs ((Xs CX0 P w K mg base N qual (Z3 st) f cdv A outer s H E0).marked y) (Z9 st) t∧t { nx:=λ_ H'=>Q .non H',rt:=Q } (start N vs) H):FnOkM P w K mg base (k + 1) f fd ps sp:=by
 obtain⟨oc,od,kV,doc,pm,an,cdv,ct,osl,rfl,lk,hcd⟩:=F.ex;refine⟨len,λA y outer s H args us vs Q hr e0 hb r hsp=>?_⟩;have hl:=len _ _ _ _ hsp;have KI:K.In s.heap:=e0.mod.kin.keeps λb o e=>(e0.bs b o e).1;have lim:s.heap.NoLimit:=e0.mod.nolimit.keeps λb o e=>(e0.bs b o e).1;have kinds:∀ z∈ps.zip us,(Z3 st).names.lookup z.1=some .local∨((Z3 st).names.lookup z.1=some .cell∧((cellsFrom (s.heap.objs.size + 1) (Z3 st).names []).lookup z.1).isSome=true):=λ⟨n,v⟩ hz=>by
  rcases S.par n (List.of_mem_zip hz).1 with q|q
  ·exact .inl q
  ·exact .inr ⟨q,cellsFrom_some _ _ _ (.inl q)⟩
 refine codeAny_call_function (A:=A.mark (some (.ref y))) hr.depth (KI _ _ lk) rfl S.co S.gen rfl (codeRec_of KI hcd) (hb _ _ _ _ ?_);refine wpAny_newFunctionEnv_cells S.kind kinds λenv he s1 ic=>?_;subst he;refine⟨lim.keeps ic.toInCall.keep,codeAny_func ?_⟩;obtain⟨t,ht,hq⟩:=hbody cdv A y outer s H vs Q (hr.deeper _) hsp;have J:Inv (Xs CX0 P w K mg base N qual (Z3 st) f cdv A outer s H E0) [] (start N vs) H s1:=Z1N S hr.hd e0 hl r ic;refine wpAny_mono (ht [] s1 (start N vs) H _ (J.marked y) hq) (λfl s' hs=>?_) λe s' hs=>hs.elim;cases fl with
 | ret u=>
   obtain⟨v,σ',H',J',rv,q⟩:=hs;exact⟨v,H',J'.os,J'.bare,J'.base,J'.hok,rv,q⟩
 | next=>
   obtain⟨σ',H',J',q⟩:=hs;exact⟨V.non,H',J'.os,J'.bare,J'.base,J'.hok,rfl,q⟩
 | brk=>
   obtain⟨_,_,_,q⟩:=hs;exact False.elim q
 | cont=>
   obtain⟨_,_,_,q⟩:=hs;exact False.elim q
end
section
variable {X:Cx}{k:Nat}{f y:Addr}{fd:FuncData}{ps:List Str}{sp:Sp}{x:Str}{p pos:Pos}{e:Expr}{es:List Expr}{t:TA}
theorem Z60 (F:FnOkM X.prog X.w X.K X.mg X.base k f fd ps sp)(hr:Room k X.A)(hg:Gl X x)(hm:X.mg x=some (.ref f))(hk:keepIn X.K (.ref f)=true)(hb:Binds X.K fd ps [])(ha:PA (X.marked y) (e::es) t)
 (hdb:(x == ("__debug__" : Str))=false:=by decide) (he:starEach (e::es) X.env=(false,eval e X.env)::starEach es X.env:=by rfl) (hpl:(backTo pos (starEach es X.env)).any (·.1)=false:=by rfl) :
 PE (X.marked y) (.Call (.Name x p) (e::es) [] pos) (Z1Z sp [] E0 t):=by
 intro pins s σ H Q I h;refine wpAny_Call_Name_kw (YR I hg hm ?_ hdb);refine callWith_K (h₀:=X.base) I.ok.mod.kin hk (thn (ha pos pins s σ H _ I h) λus s1 ⟨vs,H1,I1,r,q⟩=>⟨I1.kIn,?_⟩) he hpl;have q:sp vs H1 Q E0:=by
  have z:=q;simp only[List.append_nil] at z;exact z
 have hl:(us++([]:List Value)).length=ps.length:=by rw[List.append_nil,←r.length];exact F.len _ _ _ _ q
 have hb2:=hb s1 us I1.kIn hl;rw[List.append_nil] at hb2;have e0:=I1.env0;have e1:Env0 X.prog X.w X.K X.mg X.base X.A X.stack s1 H1:=⟨e0.frames,e0.mod,e0.bs,e0.bsz,e0.funs,e0.frf,e0.hok,e0.bare⟩;refine wpAny_call (codeAny_mono (F.run X.A y X.stack s1 H1 ⟨us,[]⟩ us vs Q hr e1 hb2 r q) λrr s' hq=>?_);cases rr with
 | error ee=>exact False.elim hq
 | ok fl=>
   cases fl with
   | ret u=>exact I1.after hq
   | next=>exact False.elim hq
   | brk=>exact False.elim hq
   | cont=>exact False.elim hq
end
noncomputable def XP (X:Cx)(pins:List (Addr×Obj))(xx:St→XK)(ee:Value)(s':Shared):Prop:=∃ (x C t T:Addr) (σ:St) (H H':Hp) (s:Shared),ee=.ref x∧Inv X pins σ H s∧s'.os=s.os∧AllBare s'.gens∧Un (frs X.stack) [] H H' s.heap s'.heap∧HOk X.prog X.w H' s'.heap∧
 H' x=none∧H' T=none∧s.heap.get? x=none∧s.heap.get? T=none∧Trc s'.heap x C t T∧xx σ (.ref C) none H'
noncomputable abbrev TSX:=(St→XK)→TS
noncomputable def PSX (X:Cx)(st:Stmt)(t:TSX):Prop:=∀ (pins:List (Addr×Obj)) (s:Shared) (σ:St) (H:Hp) (D:Ends) (xx:St→XK),Inv X pins σ H s→t xx D σ H→wpAny (model X.prog X.w) X.A (exec st X.env) (SP X pins D) (XP X pins xx) s
noncomputable def Z40 (X:Cx)(st:List Stmt)(t:TSX):Prop:=∀ (pins:List (Addr×Obj)) (s:Shared) (σ:St) (H:Hp) (D:Ends) (xx:St→XK),Inv X pins σ H s→t xx D σ H→wpAny (model X.prog X.w) X.A (execs st X.env) (SP X pins D) (XP X pins xx) s
section
variable {X:Cx}{st:Stmt}{YW:List Stmt}{t u:TSX}{ts:TS}{pos:Pos}
theorem Ye (h1:PSX X st t):Z40 X [st] t:=by
 intro pins s σ H D xx I h;refine wpAny_execs_cons (wpAny_mono (h1 pins s σ H D xx I h) (λf s1 q=>?_) λ_ _ z=>z);cases f with
 | next=>exact wpAny_execs_nil q
 | ret v=>exact q
 | brk=>exact q
 | cont=>exact q
noncomputable def Z7M (tc:TT)(t u:TSX):TSX:=λxx D σ H=>tc σ H λb H1=>if b=true then t xx D σ H1 else u xx D σ H1
theorem Z00 {c:Expr}{a b:List Stmt}{tc:TT}(hc:PT X.nox c tc)(ha:Z40 X a t)(hb:Z40 X b u):PSX X (.If c a b pos) (Z7M tc t u):=by
 intro pins s σ H D xx I h;refine wpAny_If (wpAny_mono (hc pins s σ H _ (I.wish _) h) (λd s1 zq=>?_) λ_ _ z=>z.elim);obtain⟨H1,I1,q1⟩:=zq;cases d with
 | true=>exact ha pins s1 σ H1 D xx I1.unwish (by simpa using q1)
 | false=>exact hb pins s1 σ H1 D xx I1.unwish (by simpa using q1)
end
section
variable {X:Cx}{k ix:Nat}{f C:Addr}{fd:FuncData}{ps:List Str}{sp:Sp}{m xn fx:Str}{e o:Expr}{es:List Expr}{ta:TE}{t:TA}{p pos apos spos px:Pos}
theorem Z8B {pins:List (Addr×Obj)}{σ:St}{H:Hp}{s:Shared}{Q:VK}{us:List Value}{vs:List V}{xx:St→XK}(F:FnOk X.prog X.w X.K X.mg X.base (CX1 X.prog X.w) k f fd ps sp)(hr:Room k X.A)(hb:Binds X.K fd ps [])
 (I:Inv X pins σ H s) (r:Vals vs us) (h:sp vs H Q (xx σ)):wpAny (model X.prog X.w) X.A (call (.ref f) us) (EP X pins σ Q) (XP X pins xx) s:=by
 have hl:(us++([]:List Value)).length=ps.length:=by rw[List.append_nil,←r.length];exact F.len _ _ _ _ h
 have hb2:=hb s us I.kIn hl;rw[List.append_nil] at hb2;refine wpAny_call (codeAny_mono (F.run X.A X.stack s H ⟨us,[]⟩ us vs Q (xx σ) hr I.env0 hb2 r h) λrr s' hq=>?_);cases rr with
 | error ee=>
   obtain⟨x,C,t,T,H',rfl,os,bare,un,hok,fx,fT,ox,oT,tr,q⟩:=hq;exact⟨x,C,t,T,σ,H,H',s,rfl,I,os,bare,un,hok,fx,fT,ox,oT,tr,q⟩
 | ok fl=>
   cases fl with
   | ret u=>exact I.after hq
   | next=>exact False.elim hq
   | brk=>exact False.elim hq
   | cont=>exact False.elim hq
end
theorem XI.cls {K:Frag}{C f:Addr}(M:XI K C f):Z28 K C:=by
 obtain⟨nm,qn,N,bs,tl,hd',sn,sub,ab,col,dd,k0,k1,k2,k3,k5,o1,o2⟩:=M.lk;exact⟨nm,qn,N,bs,tl,hd',sn,sub,ab,col,dd,k0,k1,k2,k3,k5,_,o1⟩
noncomputable def Z6t (K:Frag)(D:Addr)(i:Nat)(tb:TSX)(th:TS):TS:=λD0 σ H=>tb (λσ' cls _ H2=>∃ C,cls=.ref C∧Z28 K C∧mroIn K C (.ref D)=some true∧∀ x,H2 x=none→th (Jq i D0) (σ'.set i (some (.ref x))) (upd H2 x (XU x C))) D0 σ H
theorem Z74 {X:Cx}{i:Nat}{D:Addr}{n cn:Str}{body:List Stmt}{tb:TSX}{th:TS}{b₀:Stmt}{suite:List Stmt}{np hpos pos:Pos}(hst:X.stack=X.env::X.outer)(hfr:X.env.frame=some X.env.locals)(hb:Z40 X body tb)
 (hN:X.N.Nodup) (hi:X.N[i]? = some n) (hl:X.env.scope.names.lookup n=some .local) (hg:Gl X cn) (hm:X.mg cn=some (.ref D)) (hD:excIn X.K D vErr "ValueError.__new__" = true) (hsu:∀ x,PSs (X.marked x) (b₀::suite) th)
 (hd:(cn == ("__debug__" : Str))=false:=by decide):PS X (.Try body [.ExceptHandler (some (.Name cn np)) (some n) (b₀::suite) hpos] [] [] pos) (Z6t X.K D i tb th):=by
 intro pins s σ H D0 I h;refine wpAny_Try_except (wpAny_mono (hb pins s σ H D0 _ I h) (λf s1 q=>?_) λee s' q=>?_)
 ·cases f with
  | next=>exact wpAny_execs_nil q
  | ret v=>exact q
  | brk=>exact q
  | cont=>exact q
 ·obtain⟨x,C,t,T,σ1,H1,H',s1,rfl,I1,os,bare,un,hok,fx,fT,ox,oT,tr,C',eC,q1,q2,q3⟩:=q;cases eC;exact Z6d I1 os bare un hok fx fT ox oT tr hst hfr hN hi hl hg hm q1 hD q2 (λs7 I7=>hsu x pins s7 _ _ _ I7 (q3 x fx)) hd
end L2
namespace L2
open PySem PySem.Spec PyProof.Rows PySem.W PySem.SeqAt
section
variable {X:Cx}
theorem Z1F {A:Around}{s:Shared}(b k:Bool):EqAt A s (.bool b) (.bool k) (b == k):=by
 have r:ReadsAll s.heap [Value.bool b] [PyData.bool b] []:=.cons (.bool b) .nil;exact eq_isBoolOf k r (by simp[Shape.has]) (.bool b) (by simp) A s
theorem Z0D:∀ {bs:List Bool}{us:List Value},Vals (bs.map V.bl) us→us=bs.map Value.bool
 | [],_,.nil=>rfl
 | b::bs,_,.cons r t=>by rw[show _=Value.bool b from r,Z0D t];rfl
noncomputable def Z73:V→List V→Hp→VK→Prop:=λx vs H Q=>∃ (l:Addr) (bs:List Bool) (k:Bool),x=.ref l∧vs=[.bl k]∧H l=some (.lst (bs.map V.bl))∧Q (.int (bs.countP (· == k):Nat)) H
theorem Z5i:MtR X "list.count" Z73:=by
 intro pins s σ H x vs v us Q I rx rv h;obtain⟨l,bs,k,rfl,rfl,hl,q⟩:=h;cases rx;obtain⟨u,rfl,ru⟩:=Xc rv;cases ru;obtain⟨_,its,n,rr,e⟩:=(show ObjOk X.prog X.w H s.heap l (.lst _) from I.hok l _ hl);have ei:=Z0D rr;subst ei;refine call_meets PySem.F.slot_list_count ⟨_,e,rfl⟩ PySem.F.entry_list_count (PySem.F.args_list_count_2 _ _) (list_countAt l (bs.map Value.bool).toArray n none #[] (.bool k) (λy=>match y with|.bool b=>b == k|_=>false)) ⟨e,λy hy=>?_,?_⟩
 ·obtain⟨b,_,rfl⟩:=List.mem_map.mp (show y∈bs.map Value.bool by simpa using hy);exact Z1F b k
 ·refine⟨.int _,H,I.tok _,?_,q⟩;have:(List.countP (λy=>match y with|Value.bool b=>b == k|_=>false) (bs.map Value.bool))=bs.countP (· == k):=by rw[List.countP_map];rfl
  rw[show (bs.map Value.bool).toArray.toList=bs.map Value.bool from rfl,this];exact⟨_,rfl⟩
noncomputable def Z6P:V→List V→Hp→VK→Prop:=λx vs H Q=>∃ (l:Addr) (bs:List Bool) (k:Bool) (j:Nat),x=.ref l∧vs=[.bl k]∧H l=some (.lst (bs.map V.bl))∧bs.length≤1000∧bs[j]? = some k∧(∀ i,i < j→bs[i]? = some (!k))∧Q (.int j) H
theorem Z50:MtR X "list.index" Z6P:=by
 intro pins s σ H x vs v us Q I rx rv h;obtain⟨l,bs,k,j,rfl,rfl,hl,hb,hj,hi,q⟩:=h;cases rx;obtain⟨u,rfl,ru⟩:=Xc rv;cases ru;obtain⟨_,its,n,rr,e⟩:=(show ObjOk X.prog X.w H s.heap l (.lst _) from I.hok l _ hl);have ei:=Z0D rr;subst ei;have jl:j < bs.length:=(List.getElem?_eq_some_iff.mp hj).1;refine call_meets PySem.F.slot_list_index ⟨_,e,rfl⟩ PySem.F.entry_list_index (PySem.F.args_list_index_2 _ _)
  (list_indexAt l (bs.map Value.bool).toArray n none #[] (.bool k) (λy=>match y with|.bool b=>b == k|_=>false) j (by simpa using jl) (by omega) ?_ ?_) ⟨e,λy hy=>?_,⟨.int j,H,I.tok _,⟨_,rfl⟩,q⟩⟩
 ·have:bs[j]=k:=(List.getElem?_eq_some_iff.mp hj).2;simp[this]
 ·intro m hm hlt;have ml:m < bs.length:=by simpa using hm
  have e2:bs[m] = !k:=(List.getElem?_eq_some_iff.mp (hi m hlt)).2;simp[e2]
 ·obtain⟨b,_,rfl⟩:=List.mem_map.mp (show y∈bs.map Value.bool by simpa using hy);exact Z1F b k
noncomputable def Z7L:R2:=λx y H Q=>∃ (a:Addr) (o:Option V),y=.ref a∧DGet H a x o∧Q (.bl o.isSome) H
noncomputable def Z7g:R2:=λx y H Q=>∃ (a:Addr) (o:Option V),y=.ref a∧DGet H a x o∧Q (.bl (!o.isSome)) H
theorem Z8l (hu:X.A.units + 1 < cLine):OpR X (compareOp .In) Z7L:=by
 intro pins s σ H x y v u Q I rx ry h;obtain⟨a,o,rfl,g,q⟩:=h;cases ry;exact Z8R hu I g rx λs' I'=>⟨.bl _,H,I',rfl,q⟩
theorem Z4Y (hu:X.A.units + 1 < cLine):OpR X (compareOp .NotIn) Z7g:=by
 intro pins s σ H x y v u Q I rx ry h;obtain⟨a,o,rfl,g,q⟩:=h;cases ry;exact Z71 hu I g rx λs' I'=>⟨.bl _,H,I',rfl,q⟩
theorem Z4K {x:Str}{z:Str}{pos:Pos}(hg:Gl X x)(hm:∃ t,X.mg x=some (.str z t))(hd:(x == ("__debug__" : Str))=false:=by decide):PE X (.Name x pos) (tC (.str z)):=by
 obtain⟨t,hm⟩:=hm;exact Zy (v:=.str z) hg hm ⟨t,rfl⟩ hd
theorem Z3H:YA X (.type "dict") (λxs H Q=>∃ (a:Addr) (kvs:List (Key×V)),xs=[.ref a]∧Rd H a (.dK kvs)∧∀ p,H p=none→Q (.ref p) (upd H p (.dK kvs))):=by
 intro pins s σ H xs us Q I r h;obtain⟨a,kvs,rfl,rd,q⟩:=h;obtain⟨u,rfl,rx⟩:=Xc r;cases rx;exact Z6k I rd λp s' hp I'=>⟨.ref p,_,I',rfl,q p hp⟩
end
end L2
namespace ZT
open PySem
local macro_rules | `(tactic| walk_at "om3")=>`(tactic| first|(show @Ne Nat _ _;omega)|(show @LE.le Nat _ _ _;omega))
section
variable {prog:Program}{w:World}{A:Around}{E:Value→Shared→Prop}{s:Shared}
variable {n l1 l2:Addr}
end
section
variable {prog:Program}{w:World}{A:Around}{E:Value→Shared→Prop}{s:Shared}
end
end ZT
namespace L2
open PySem PySem.Spec PyProof.Rows
local macro_rules | `(tactic| walk_at "om3")=>`(tactic| first|(show @Ne Nat _ _;omega)|(show @LT.lt Nat _ _ _;omega)|(show @LE.le Nat _ _ _;omega))
section
variable {X:Cx}{elts:List Expr}{k:Nat}{tpos:Pos}
end
end L2
namespace L2
open PySem PySem.Spec PyProof.Rows PySem.W
theorem Ji {A:Around}{k:Nat}(hr:Room k A):A.units + 1 < cLine:=by have:=Z8p hr;omega
section
variable {X:Cx}
noncomputable def Z8U (K:Frag):R2:=λx y H Q=>rIn K false x y H Q∨Z7L x y H Q
theorem Z7D {K:Frag}(hK:X.K=K)(hu:X.A.units + 1 < cLine):OpR X (compareOp .In) (Z8U K):=by
 intro pins s σ H x y v u Q I rx ry h
 rcases h with h|h
 ·exact inS hK pins s σ H x y v u Q I rx ry h
 ·exact Z8l hu pins s σ H x y v u Q I rx ry h
end
section
variable {σ:St}{H:Hp}{Q:VK}{D:Ends}{ta tv td ty:TE}{tr:TA}{K:Frag}{f m:Str}{C:Addr}{sp:Sp}{dvs:List V}{E:XK}
theorem rd_fld (q:ta σ H λx H1=>∃ a C dx fs v,x=.ref a∧H1 a=some (.ins C dx fs)∧Cls K C∧NoAttr K C f∧fs.lookup f=some v∧Q v H1):Z5p K ta f σ H Q:=q
theorem rd_sfld (q:tv σ H λy H1=>ta σ H1 λx H2=>∃ a C dx fs,x=.ref a∧H2 a=some (.ins C dx fs)∧Cls K C∧NoAttr K C f∧fs.length < 1000∧D.nx σ (upd H2 a (.ins C dx (ZA f y fs)))):Z8q K ta tv f D σ H:=q
theorem rd_meth (q:ta σ H λx H1=>∃ a dx fs,x=.ref a∧H1 a=some (.ins C dx fs)∧fs.lookup m=none∧tr σ H1 λvs H2=>sp (x::(vs++dvs)) H2 Q E):Z4c C m sp dvs E ta tr σ H Q:=q
theorem rd_make (q:tr σ H λvs H1=>∀ x dx,H1 x=none→H1 dx=none→dx≠x→sp (.ref x::(vs++dvs)) (upd (upd H1 dx (.own x)) x (.ins C dx [])) (λv H2=>v=.non∧Q (.ref x) H2) E):Z3E C sp dvs E tr σ H Q:=q
theorem rd_dget (q:td σ H λx H1=>ty σ H1 λy H2=>∃ a v,x=.ref a∧DGet H2 a y (some v)∧Q v H2):Z6J td ty σ H Q:=q
theorem rd_dput (q:tv σ H λv H1=>td σ H1 λx H2=>ty σ H2 λy H3=>∃ a H4,x=.ref a∧DPut H3 a y v H4∧D.nx σ H4):Z6y td ty tv D σ H:=q
theorem rd_raise (q:tr σ H λvs H1=>vs.length≤100∧E (.ref C) none H1):Z2t E C tr D σ H:=q
theorem rd_thaw {X:Cx}(q:ta σ H λv H1=>∃ H2,Th X H1 H2∧Q v H2):Z6H X ta σ H Q:=q
end
noncomputable def Xz (z:Str):List Str:=z.cps.toList.map λc=>⟨#[c]⟩
noncomputable def inT (c w:Str):Bool:=!(Builtin.Str.occurrences w c 0 w.length 1).isEmpty
noncomputable def Z1X (z w:Str):Bool:=(Xz z).all λc=>inT c w
noncomputable abbrev abc:Str:="abcdefghijklmnopqrstuvwxyz"
noncomputable def Yh (z:Str):Bool:=(decide (1≤(z.length:Int)) && decide ((z.length:Int)≤8)) && Z1X z abc
theorem Z21 (z:Str):(Xz z).length=z.cps.size:=by unfold Xz;simp
theorem Z5E {z:Str}{i c:Nat}(h:z.cps[i]? = some c):(Xz z)[i]? = some ⟨#[c]⟩:=by
 unfold Xz;simp[h]
theorem Z02 {α:Type}{xs:List α}{i:Nat}{x:α}(h:xs[i]? = some x):xs.take (i + 1)=xs.take i++[x]:=by
 rw[List.take_add_one,h];rfl
theorem Z0G (z:Str)(zs:List Str):inV (.str z) (zs.map V.str)=decide (z∈zs):=by
 unfold inV;rw[List.any_map,Bool.eq_iff_iff,List.any_eq_true,decide_eq_true_iff];constructor
 ·rintro⟨y,hy,e⟩;have:y=z:=by simpa [eqV] using e
  rw[←this];exact hy
 ·intro h;exact⟨z,h,by simp[eqV]⟩
theorem Z08 (zs:List Str):(zs.map V.str).all XG=true:=by
 rw[List.all_map,List.all_eq_true];intro x _;rfl
noncomputable abbrev Mn:=Str×Str×Int
noncomputable def Men (H:Hp)(kvs:List (Key×V))(ms:List Mn):Prop:=kvs.length=ms.length∧∀ (i:Nat) (m:Mn),ms[i]? = some m→∃ p:Addr,kvs[i]? = some ((Sum.inr m.1:Key),V.ref p)∧H p=some (.tup [.str m.2.1,.int m.2.2])
theorem Men.nil {H:Hp}:Men H [] []:=⟨rfl,λi m h=>by simp at h⟩
theorem Men.same {H H':Hp}{kvs:List (Key×V)}{ms:List Mn}(h:Men H kvs ms)(k:∀ p xs,H p=some (.tup xs)→H' p=some (.tup xs)):Men H' kvs ms:=
 ⟨h.1,λi m e=>let ⟨p,a,b⟩:=h.2 i m e;⟨p,a,k _ _ b⟩⟩
theorem Men.snoc {H:Hp}{kvs:List (Key×V)}{ms:List Mn}{p:Addr}{x y:Str}{r:Int}(h:Men H kvs ms)(hp:H p=some (.tup [.str y,.int r])):Men H (kvs++[((Sum.inr x:Key),V.ref p)]) (ms++[(x,y,r)]):=by
 refine⟨by simp[h.1],λi m e=>?_⟩;rw[List.getElem?_append] at e
 by_cases hi:i < ms.length
 ·rw[if_pos hi] at e;obtain⟨q,a,b⟩:=h.2 i m e;exact⟨q,by rw[List.getElem?_append,if_pos (by rw[h.1];exact hi)];exact a,b⟩
 ·rw[if_neg hi] at e;have e0:i - ms.length=0:=by
   cases z:i - ms.length with
   | zero=>rfl
   | succ n=>rw[z] at e;simp at e
  rw[e0] at e;have:m=(x,y,r):=by simpa using e.symm
  subst this;exact⟨p,by rw[List.getElem?_append,if_neg (by rw[h.1];exact hi),h.1,e0];rfl,hp⟩
theorem Men.keys {H:Hp}{kvs:List (Key×V)}{ms:List Mn}(h:Men H kvs ms):kvs.map (·.1)=ms.map λm=>(Sum.inr m.1:Key):=by
 apply List.ext_getElem?;intro i;rw[List.getElem?_map,List.getElem?_map];cases e:ms[i]? with
 | none=>
   have:kvs[i]? = none:=by rw[List.getElem?_eq_none_iff] at e ⊢;rw[h.1];exact e
   rw[this];rfl
 | some m=>
   obtain⟨p,a,_⟩:=h.2 i m e;rw[a];rfl
theorem Z5t {kvs:List (Key×V)}{k:Key}:(ZP kvs k).isSome=true ↔ k∈kvs.map (·.1):=by
 cases e:ZP kvs k with
 | none=>exact⟨λh=>(by cases h),λh=>absurd h (Z5S e)⟩
 | some v=>exact⟨λ_=>Z7j e,λ_=>rfl⟩
theorem Men.has {H:Hp}{kvs:List (Key×V)}{ms:List Mn}(h:Men H kvs ms)(x:Str):(ZP kvs (.inr x)).isSome=decide (x∈ms.map (·.1)):=by
 rw[Bool.eq_iff_iff,Z5t,h.keys,decide_eq_true_iff];constructor
 ·intro h;obtain⟨m,hm,e⟩:=List.mem_map.mp h;injection e with e
  exact List.mem_map.mpr ⟨m,hm,e⟩
 ·intro h;obtain⟨m,hm,e⟩:=List.mem_map.mp h;exact List.mem_map.mpr ⟨m,hm,by rw[←e]⟩
theorem rd_nopart {σ:St}{H:Hp}{Q:Option Int→Hp→Prop}(q:Q none H):Z3p σ H Q:=q
theorem Z1D:∀ (zs:List Str),(∀ z∈zs,z.length=1)→(Str.join "" zs).length=zs.length
 | [],_=>rfl
 | [x],h=>h x (by simp)
 | x::y::r,h=>by
   have e:=Z1D (y::r) λz hz=>h z (by simp at hz ⊢;exact .inr hz);have ex:=h x (by simp);show (x++""++Str.join "" (y::r)).length=_;rw[Str.length_append,Str.length_append,e,ex];show 1 + 0 + (y::r).length=_;simp only[List.length_cons];omega
theorem Z2V:∀ (zs:List Str),(∀ z∈zs,z.length=1)→(zs.map (·.length)).sum=zs.length
 | [],_=>rfl
 | x::r,h=>by
   simp only[List.map_cons,List.sum_cons,List.length_cons];rw[h x (by simp),Z2V r λz hz=>h z (by simp[hz])];omega
theorem Z7T {zs:List Str}(h:∀ z∈zs,z.length=1)(hl:zs.length≤1000):JoinOk "" zs=true∧(Txt.join "" zs).length=zs.length:=by
 refine⟨?_,?_⟩
 ·unfold JoinOk;rw[StrLaws.joinTotal,Z2V zs h];show (!decide (zs.length + zs.length * 0 > sizeLine))=true;rw[Nat.mul_zero,Nat.add_zero,decide_eq_false (by have:=ZC hl;omega)];rfl
 ·show (Builtin.Str.glued "" zs).length=_;rw[StrLaws.glued_eq_join];exact Z1D zs h
theorem Z7Q {r:Int}(h0:0≤r)(h1:r < 26):∃ c,atI abc.cps.toList r=some c:=by
 have hn:abc.cps.toList.length=26:=by decide +kernel
 have hk:r.toNat < abc.cps.toList.length:=by rw[hn];omega
 have q:atI abc.cps.toList ((r.toNat:Nat):Int)=some abc.cps.toList[r.toNat]:=ZG (List.getElem?_eq_getElem hk);rw[show ((r.toNat:Nat):Int)=r by omega] at q;exact⟨_,q⟩
end L2
namespace L2
open PySem PySem.Spec PyProof.Rows
end L2
namespace L2
open PySem PySem.Spec PyProof.Rows PySem.W
theorem FnOk.calm {P:Program}{w:World}{K:Frag}{mg:Str→Option Value}{base:Heap}{k:Nat}{f:Addr}{fd:FuncData}{ps:List Str}{sp:Sp}(F:FnOk P w K mg base (CX1 P w) k f fd ps sp) :
 FnOk P w K mg base CX0 k f fd ps (λvs H Q _=>sp vs H Q λ_ _ _=>False):=
 ⟨λvs H Q _ h=>F.len vs H Q _ h,λA outer s H args us vs Q E hr he hb hv hs=>codeAny_mono (F.run A outer s H args us vs Q _ hr he hb hv hs) λr s' hq=>by
  cases r with
  | ok g=>cases g<;>exact hq
  | error e=>
    obtain⟨_,_,_,_,_,_,_,_,_,_,_,_,_,_,_,h⟩:=hq;exact h.elim⟩
end L2
namespace PySem.W
open PySem PyProof.Rows
section
variable {prog:Program}{w:World}{A:Around}{E:Value→Shared→Prop}{s:Shared}{d:Addr}{es:Array DictEntry}{ep:Nat}
end
end PySem.W
namespace L2
open PySem PySem.Spec PyProof.Rows PySem.W
section
variable {X:Cx}{pins:List (Addr×Obj)}{σ:St}{H:Hp}{s:Shared}{d:Addr}
end
section
variable {M:Model}{A:Around}{EE:Value→Shared→Prop}{s:Shared}{bs:Heap}{ev:Env}{ou:List Env}{L e:Addr}{Q:Unit→Shared→Prop}
end
section
variable {prog:Program}{w:World}{A:Around}{EE:Value→Shared→Prop}{env:Env}
variable {nm q:Str}{C N x0:Addr}{bs bm:List Value}{hdct:Bool}{sn:List Str}{sub:List Value}{ab:Bool}{col:Option Bool}{dd:Option Addr}{k0 k1 k2 k3 k5:Option Value}{newId:String}
end
section
variable {X:Cx}{pins:List (Addr×Obj)}{σ:St}{H H':Hp}{s:Shared}
end
section
variable {X:Cx}{E:XK}{ta:TA}
end
section
variable {P:Program}{w:World}{K:W.Frag}{mg:Str→Option Value}{base:Heap}
end
section
variable {X:Cx}{pins:List (Addr×Obj)}{σ:St}{H H':Hp}{s:Shared}
end
section
variable {X:Cx}{C:Addr}{x f:Str}{e o value:Expr}{p pos pos':Pos}{ta:TA}{te tv:TE}{E:XK}{CX:CXT}{k:Nat}{fI:Addr}{fd:FuncData}{ps:List Str}{sp:Sp}
end
section
variable {X:Cx}{E:XK}{k kI:Nat}{f fI B D:Addr}{fd fdI:FuncData}{ps psI:List Str}{sp spI:Sp}{fn bn cn:Str}{e en:Expr}{es:List Expr}{t tn:TA}{p cp ep np bp bcp np2 rp hpos pos:Pos}{j:Nat}
end
section
variable {X:Cx}{pins:List (Addr×Obj)}{σ:St}{H:Hp}{s:Shared}
theorem Inv.byNews2 {D D2:Addr}{e1 e2:Nat}{m:Str→Option Value}{h':Heap}{t':Nat}(I:Inv X pins σ H s)(F:Fr X.base X.env.locals s.heap m)(F':Fr X.base X.env.locals h' m)
 (N':News X.base X.env.locals h' ((D2,seqObj "list" #[] e2)::(D,seqObj "list" #[] e1)::Xl X.base s.heap X.env.locals)) (l0:D < D2) (lt:∀ q∈Xl X.base s.heap X.env.locals,q.1 < D) :
 Inv X pins σ (upd (upd H D (.lst [])) D2 (.lst [])) { s with heap:=h',toks:=t' }∧H D=none∧H D2=none:=by
 obtain⟨n1,n2,n3⟩:=N' (D,_) (.tail _ (.head _));obtain⟨p1,p2,p3⟩:=N' (D2,_) (.head _);have nD:∀ b,D≤b→b≠X.env.locals→X.base.get? b=none→s.heap.get? b=none:=λb hb h1 h2=>by
  cases e:s.heap.get? b with
  | none=>rfl
  | some u=>exact absurd (lt (b,u) (YG h1 h2 e)) (Nat.not_lt_of_le hb)
 have g1:=nD D (Nat.le_refl _) n2 n3;have g2:=nD D2 (Nat.le_of_lt l0) p2 p3;have hD:=I.gone g1;have hD2:=I.gone g2;have kk:∀ b u,b≠X.env.locals→s.heap.get? b=some u→h'.get? b=some u:=λb u hb e=>by
  cases q:X.base.get? b with
  | some v=>
    have:=I.bk b v q;rw[e] at this;cases this;exact F'.keep b _ q
  | none=>exact (N' (b,u) (.tail _ (.tail _ (YG hb q e)))).1
 have ne:∀ b u,s.heap.get? b=some u→b≠D∧b≠D2:=λb u e=>⟨λz=>(by rw[z,g1] at e;cases e),λz=>(by rw[z,g2] at e;cases e)⟩;have ne':∀ b u,H b=some u→b≠D∧b≠D2:=λb u e=>⟨λz=>(by rw[z,hD] at e;cases e),λz=>(by rw[z,hD2] at e;cases e)⟩;have nL:∀ b u,H b=some u→b≠X.env.locals:=λb u e z=>by rw[z,I.free] at e;cases e
 have up:∀ b u,H b=some u→upd (upd H D (.lst [])) D2 (.lst []) b=some u:=λb u e=>by rw[Z2 (ne' _ _ e).2,Z2 (ne' _ _ e).1];exact e
 refine⟨I.step (g':=s.gens) (d':=s.drawn) (ch:=[]) (λ_ z=>nomatch z) (λb u hb _ _ e _=>kk b u hb e) (λb u hb _ _ e _=>⟨u.slots,kk b u hb e⟩) (λb u _ e z=>by rw[Z2 (ne b u e).2,Z2 (ne b u e).1];exact z) (λb u _ e=>?_)
  (λb xs e=>up _ _ e) (λb u v e=>up _ _ e) (λb ps e=>⟨#[],by simpa using up _ _ e⟩) (λm1 hm=>?_) (λb u e=>?_) I.bare,hD,hD2⟩
 ·by_cases hb:b=X.env.locals
  ·obtain⟨o',_,_,ho',_⟩:=F'.ns;exact⟨o',by rw[hb];exact ho'⟩
  ·exact⟨u,kk b u hb e⟩
 ·have em:m=m1:=by
   obtain⟨o1,es1,ep1,a1,a2,a3,a4⟩:=F.ns;obtain⟨o2,es2,ep2,b1,b2,b3,b4⟩:=hm;rw[a1] at b1;cases b1;rw[a2] at b2;cases b2
   funext x
   rw[←a4,←b4]
  rw[←em];exact F'.ns
 ·by_cases hb2:b=D2
  ·subst hb2;rw[Z1] at e;cases e;exact⟨Nat.zero_le _,[],e2,.nil,p1⟩
  ·rw[Z2 hb2] at e
   by_cases hb:b=D
   ·subst hb;rw[Z1] at e;cases e;exact⟨Nat.zero_le _,[],e1,.nil,n1⟩
   ·rw[Z2 hb] at e;refine (I.hok b u e).stay (λc v hc q=>kk c v ?_ q) (λc q=>up _ _ q) λc xs q=>up _ _ q
    rcases hc with rfl|hc
    ·exact nL _ _ e
    ·exact nL _ _ hc
theorem Inv.newsSet {D:Addr}{c:Nat}{m:Str→Option Value}{h':Heap}{xs xs':List V}{its:List Value}(I:Inv X pins σ H s)(eD:H D=some (.lst xs))(F:Fr X.base X.env.locals s.heap m)(F':Fr X.base X.env.locals h' m)
 (N':News X.base X.env.locals h' ((D,seqObj "list" its.toArray c)::YW X.base s.heap X.env.locals D)) (r:Vals xs' its) (z:xs'.length≤sizeLine) :
 Inv X pins σ (upd H D (.lst xs')) { s with heap:=h' }:=by
 obtain⟨n1,n2,n3⟩:=N' (D,_) (.head _);have kk:∀ b u,b≠X.env.locals→b≠D→s.heap.get? b=some u→h'.get? b=some u:=λb u hb hd e=>by
  cases q:X.base.get? b with
  | some v=>
    have:=I.bk b v q;rw[e] at this;cases this;exact F'.keep b _ q
  | none=>exact (N' (b,u) (.tail _ (Z5L hb q e hd))).1
 have nn:∀ b,H b=none→b≠D:=λb e q=>by rw[q,eD] at e;cases e
 have nL:∀ b u,H b=some u→b≠X.env.locals:=λb u e z=>by rw[z,I.free] at e;cases e
 have up:∀ b u,H b=some u→(∀ ys,u≠.lst ys)→upd H D (.lst xs') b=some u:=λb u e n=>by
  rw[Z2 λq=>by rw[q,eD] at e;cases e;exact n _ rfl];exact e
 refine I.step (t':=s.toks) (g':=s.gens) (d':=s.drawn) (ch:=[]) (λ_ z=>nomatch z) (λb u hb _ _ e z=>kk b u hb (nn b z) e) (λb u hb _ _ e z=>⟨u.slots,kk b u hb (nn b z) e⟩) (λb u _ e z=>by rw[Z2 (nn b z)];exact z) (λb u _ e=>?_)
  (λb ys e=>up _ _ e (by intro _ z;cases z)) (λb u v e=>up _ _ e (by intro _ z;cases z)) (λb ps e=>⟨#[],by simpa using up _ _ e (by intro _ z;cases z)⟩) (λm1 hm=>?_) (λb u e=>?_) I.bare
 ·by_cases hb:b=X.env.locals
  ·obtain⟨o',_,_,ho',_⟩:=F'.ns;exact⟨o',by rw[hb];exact ho'⟩
  ·by_cases hd:b=D
   ·exact⟨_,by rw[hd];exact n1⟩
   ·exact⟨u,kk b u hb hd e⟩
 ·have em:m=m1:=by
   obtain⟨o1,es1,ep1,a1,a2,a3,a4⟩:=F.ns;obtain⟨o2,es2,ep2,b1,b2,b3,b4⟩:=hm;rw[a1] at b1;cases b1;rw[a2] at b2;cases b2
   funext x
   rw[←a4,←b4]
  rw[←em];exact F'.ns
 ·by_cases hb:b=D
  ·subst hb;rw[Z1] at e;cases e;exact⟨z,its,c,r,n1⟩
  ·rw[Z2 hb] at e;refine (I.hok b u e).stay (λc v hc q=>kk c v ?_ ?_ q) (λc q=>up _ _ q (by intro _ z;cases z)) λc xs q=>up _ _ q (by intro _ z;cases z)
   ·rcases hc with rfl|hc
    ·exact nL _ _ e
    ·exact nL _ _ hc
   ·rcases hc with rfl|hc
    ·exact hb
    ·intro q;rw[q,eD] at hc;cases hc
end
section
variable {X:Cx}{pins:List (Addr×Obj)}{σ:St}{H:Hp}{s:Shared}{d:Addr}
theorem Inv.freezeL {xs:List V}{o:Obj}(I:Inv X pins σ H s)(e:H d=some (.lst xs))(g:s.heap.get? d=some o):Inv X pins σ (upd H d (.frz o (.lst xs))) s:=
 I.retold e (by intro xs z;cases z) (by intro xs z;cases z) (I.notfrz e (by intro p u z;cases z)) (by intro xs z;cases z) ⟨g,I.hok d _ e⟩
theorem Inv.thawL {xs:List V}{o:Obj}(I:Inv X pins σ H s)(e:H d=some (.frz o (.lst xs)))(nf:NF X d):Inv X pins σ (upd H d (.lst xs)) s:=by
 obtain⟨h1,h2⟩:=I.hok d _ e;exact I.retold e (by intro xs z;cases z) (by intro xs z;cases z) nf (by intro xs z;cases z) h2
noncomputable abbrev Z0n (k:Int×Int):List V:=[.int k.1,.int k.2]
structure KeysAt (X:Cx)(pins:List (Addr×Obj))(σ:St)(H0:Hp)(m:Str→Option Value)(D kS:Addr)(e1:Nat)(ks:List (Int×Int))(tps:List Addr)(e:Nat)(Hc:Hp)(s:Shared):Prop where
 inv:Inv X pins σ Hc s
 fr:Fr X.base X.env.locals s.heap m
 hD:Hc D=some (.frz (seqObj "list" #[] e1) (.lst []))
 hK:Hc kS=some (.frz (seqObj "list" (tps.map Value.ref).toArray e) (.lst (tps.map V.ref)))
 ne:D≠kS
 nD:NF X D
 nK:NF X kS
 same:Same H0 Hc
 fresh:H0 D=none∧H0 kS=none
 tup:∀ j,j < tps.length→Hc (tps.getD j 0)=some (.tup (Z0n (ks.getD j (0,0))))
 base:X.base.get? D=none∧X.base.get? kS=none∧D≠X.env.locals∧kS≠X.env.locals
theorem Z0c:∀ (as:List Addr),Vals (as.map V.ref) (as.map Value.ref)
 | []=>.nil
 | a::as=>.cons rfl (Z0c as)
variable {k:Nat}{f:Addr}{fd:FuncData}{p:Str}{sp:Sp}
theorem JK {H0:Hp}{m:Str→Option Value}{D kS:Addr}{e1:Nat}{ks:List (Int×Int)}{ps:List Addr}{Fin:List Value→Nat→Shared→Prop}(F:FnOk X.prog X.w X.K X.mg X.base CX0 k f fd [p] sp)(hr:Room (k + 2) X.A)(hb:Binds X.K fd [p] [])
 (l64:ps.length≤900)
 (hsp:∀ Hc,Same H0 Hc→∀ i,i < ps.length→sp [.ref (ps.getD i 0)] Hc (λv H2=>Same Hc H2∧∃ tp,v=.ref tp∧H2 tp=some (.tup (Z0n (ks.getD i (0,0))))) E0)
 (fin:∀ tps e Hc s',tps.length=ps.length→KeysAt X pins σ H0 m D kS e1 ks tps e Hc s'→Fin (tps.map Value.ref) e s') :
 ∀ (r:List Addr) (tps:List Addr) (e:Nat) (Hc:Hp) (s':Shared),tps.length + r.length=ps.length→(∀ j,j < r.length→r.getD j 0=ps.getD (tps.length + j) 0)→KeysAt X pins σ H0 m D kS e1 ks tps e Hc s'→
   KatKeys X.prog X.w X.A.in1.in1 X.base X.env.locals m kS (.ref f) Fin (r.map Value.ref) (tps.map Value.ref) e s'
 | [],tps,e,Hc,s',hl,_,A=>KatKeys.nil (fin tps e Hc s' (by simpa using hl) A)
 | a::r,tps,e,Hc,s',hl,hg,A=>by
   have ha:a=ps.getD tps.length 0:=by simpa using hg 0 (by simp)
   have hi:tps.length < ps.length:=by simp at hl;omega
   refine KatKeys.cons ?_;have hq:=hsp Hc A.same tps.length hi;rw[←ha] at hq;have r1:Vals [V.ref a] [Value.ref a]:=.cons rfl .nil;have hb2:=hb s' [Value.ref a] A.inv.kIn rfl;rw[List.append_nil] at hb2;have e0:=A.inv.env0;refine wpAny_call (codeAny_mono (F.run X.A.in1.in1 X.stack s' Hc ⟨[Value.ref a],[]⟩ [Value.ref a] _ _ E0 (hr.in1.in1) e0.in1.in1 hb2 r1 hq) λrr s2 hq'=>?_);cases rr with
   | error ee=>exact False.elim hq'
   | ok fl=>
     cases fl with
     | next=>exact False.elim hq'
     | brk=>exact False.elim hq'
     | cont=>exact False.elim hq'
     | ret u=>
       obtain⟨v,H2,I2,rv,S2,tp,ev,et⟩:=A.inv.after hq';subst ev;obtain rfl:u=Value.ref tp:=rv;have F2:Fr X.base X.env.locals s2.heap m:=by
        obtain⟨_,_,_,_,un,_⟩:=id hq';obtain⟨o,es,ep,ho,rr⟩:=A.fr.ns;obtain⟨sl,hL⟩:=un.any ho A.inv.free (by simp);exact⟨⟨_,es,ep,hL,rr⟩,I2.bk,A.fr.above⟩
       have hD2:=S2 _ _ A.hD;have hK2:=S2 _ _ A.hK;obtain⟨gK,_⟩:=I2.hok _ _ hK2;refine KatBack.intro F2 (Z1h A.base.2.2.2 A.base.2.1 gK) (.head Z1c) λh' c F' N'=>?_;have I3:=I2.thawL hK2 A.nK;have vv:Vals ((tps++[tp]).map V.ref) ((tps++[tp]).map Value.ref):=Z0c _;have eL:(tps.map Value.ref)++[Value.ref tp]=(tps++[tp]).map Value.ref:=by simp
       rw[eL] at N' ⊢;have I4:=I3.newsSet (xs':=(tps++[tp]).map V.ref) Z1 F2 F' N' vv (by rw[List.length_map,List.length_append];exact ZC (by simp;omega));rw[Y3] at I4;have I5:=I4.freezeL Z1 (N' _ (.head _)).1;rw[Y3] at I5;have nt:∀ b xs,H2 b=some (.tup xs)→b≠kS:=λb xs q z=>by rw[z,hK2] at q;cases q
       refine JK F hr hb l64 hsp fin r (tps++[tp]) c _ _ (by simp at hl ⊢;omega) (λj hj=>?_) ⟨I5,F',?_,Z1,A.ne,A.nD,A.nK,?_,A.fresh,λj hj=>?_,A.base⟩
       ·have:=hg (j + 1) (by simpa using hj);simp at this ⊢;rw[this]
        congr 2
        omega
       ·rw[Z2 A.ne];exact hD2
       ·intro c2 o2 q;rw[Z2 (Z6 q A.fresh.2)];exact S2 _ _ (A.same _ _ q)
       ·by_cases hj2:j < tps.length
        ·have q:=S2 _ _ (A.tup j hj2);have eg:(tps++[tp]).getD j 0=tps.getD j 0:=by simp[List.getD,List.getElem?_append_left hj2]
         rw[eg,Z2 (nt _ _ q)];exact q
        ·have ej:j=tps.length:=by simp at hj;omega
         subst ej;have eg:(tps++[tp]).getD tps.length 0=tp:=by simp[List.getD]
         rw[eg,Z2 (nt _ _ et)];exact et
end
noncomputable def ltK (ks:List (Int×Int))(i j:Nat):Bool:=decide ((ks.getD i (0,0)).1 < (ks.getD j (0,0)).1) || (decide ((ks.getD i (0,0)).1=(ks.getD j (0,0)).1) && decide ((ks.getD i (0,0)).2 < (ks.getD j (0,0)).2))
noncomputable def Z0T (ks:List (Int×Int))(ps:List Addr):List Addr:=(sortP (ltK ks) ps.length).map λi=>ps.getD i 0
theorem JX {h:Heap}:∀ (tps:List Addr),(∀ a∈tps,∃ o n x y t u,h.get? a=some o∧o.cls=.type "tuple"∧o.data=.seq #[Value.int x t,Value.int y u] n)→∃ fs,KatTups h (tps.map Value.ref) fs∧fs.length=tps.length∧∀ v∈fs,∃ x t,v=Value.int x t
 | [],_=>⟨[],.nil,rfl,λv hv=>by simp at hv⟩
 | a::r,H=>by
   obtain⟨fs,h1,h2,h3⟩:=JX r λb hb=>H b (.tail _ hb);obtain⟨o,n,x,y,t,u,e1,e2,e3⟩:=H a (.head _);refine⟨.int x t::fs,KatTups.cons (f:=.int x t) e1 e2 e3 (by simp) h1,by simp[h2],λv hv=>?_⟩
   rcases List.mem_cons.mp hv with rfl|hv
   ·exact⟨x,t,rfl⟩
   ·exact h3 v hv
section
variable {X:Cx}{pins:List (Addr×Obj)}{σ:St}{H:Hp}{s:Shared}{k:Nat}{f:Addr}{fd:FuncData}{p:Str}{sp:Sp}
theorem KeysAt.end {H0:Hp}{m:Str→Option Value}{D kS:Addr}{e1 e:Nat}{ks:List (Int×Int)}{tps out:List Addr}{Hc:Hp}{C:Shared→Prop}(A:KeysAt X pins σ H0 m D kS e1 ks tps e Hc s)(h64:out.length≤900)
 (q:∀ s' Hf,Inv X pins σ Hf s'→Same H0 Hf→Hf D=some (.lst (out.map V.ref))→C s'):KatFin X.base X.env.locals m kS D (tps.map Value.ref) e e1 (out.map Value.ref) C s:=by
 obtain⟨gK,_⟩:=A.inv.hok _ _ A.hK;refine KatFin.intro A.fr (Z1h A.base.2.2.2 A.base.2.1 gK) (.head Z1c) λh' c F' N'=>?_;have I3:=A.inv.thawL A.hK A.nK;have I4:=I3.newsSet (xs':=[]) (its:=[]) Z1 A.fr F' N' .nil (Nat.zero_le _);rw[Y3] at I4;have hD4:upd Hc kS (.lst []) D=some (.frz (seqObj "list" #[] e1) (.lst [])):=by rw[Z2 A.ne];exact A.hD
 obtain⟨gD,_⟩:=I4.hok _ _ hD4;refine KasFin.intro F' (Z1h A.base.2.2.1 A.base.1 gD) (.head Z1c) λh'' c2 F'' N''=>?_;have I5:=I4.thawL hD4 A.nD;have I6:=I5.newsSet (xs':=out.map V.ref) (its:=out.map Value.ref) Z1 F' F'' N'' (Z0c out) (by rw[List.length_map];exact ZC (by omega));rw[Y3] at I6;refine q _ _ I6 (λc3 o3 z=>?_) Z1;rw[Z2 (Z6 z A.fresh.1),Z2 (Z6 z A.fresh.2)];exact A.same _ _ z
theorem Z3Q {l:Addr}{ks:List (Int×Int)}{ps:List Addr}{Q:VK}(F:FnOk X.prog X.w X.K X.mg X.base CX0 k f fd [p] sp)(hr:Room (k + 2) X.A)(hb:Binds X.K fd [p] [])(I:Inv X pins σ H s)(hl:SqL X.K H l (ps.map V.ref))(h2:2≤ps.length)(h64:ps.length < 64)
 (hsp:∀ Hc,Same H Hc→∀ i,i < ps.length→sp [.ref (ps.getD i 0)] Hc (λv H2=>Same Hc H2∧∃ tp,v=.ref tp∧H2 tp=some (.tup (Z0n (ks.getD i (0,0))))) E0)
 (q:∀ D Hc,Same H Hc→H D=none→Hc D=some (.lst ((Z0T ks ps).map V.ref))→Q (.ref D) Hc) :
 wpAny (model X.prog X.w) X.A (call (.builtin "sorted") [.ref l] [(Str.ofString "key",.ref f)]) (EP X pins σ Q) X.xe s:=by
 obtain⟨its,rv,pp,hz⟩:=I.list hl;have ei:its=ps.map Value.ref:=by
  clear hl hsp q pp hz;generalize ps=as at rv;clear h2 h64
  induction as generalizing its with
  | nil=>cases rv;rfl
  | cons a as ih=>
    cases rv with
    | cons r1 r2=>
      rw[ih _ r2,show _=Value.ref a from r1];rfl
 subst ei;obtain⟨m,F0⟩:=I.fr;refine kat_sortedK (b:=false) (f:=.ref f) F0 Xw pp.isList (by rw[List.length_map];exact h2) (by rw[List.length_map];exact h64) (ksk_s1 _ _) (λx=>ksk_l1 _ _) (λx=>ksk_t1 f x) λD kS e1 h' F' N' l0 lt=>?_;obtain⟨J,hD,hK⟩:=I.byNews2 (t':=s.toks) F0 F' N' l0 lt;obtain⟨n1,n2,n3⟩:=N' (D,_) (.tail _ (.head _));obtain⟨p1,p2,p3⟩:=N' (kS,_) (.head _);have ne:D≠kS:=Nat.ne_of_lt l0;have nfD:NF X D:=λo u z=>by have:=I.base.frzs _ _ _ z;rw[hD] at this;cases this
 have nfK:NF X kS:=λo u z=>by have:=I.base.frzs _ _ _ z;rw[hK] at this;cases this
 have J1:=J.freezeL (d:=kS) Z1 p1;rw[Y3] at J1;have J2:=J1.freezeL (d:=D) (xs:=[]) (by rw[Z2 ne,Z1]) n1;have A0:KeysAt X pins σ H m D kS e1 ks [] 0 _ { s with heap:=h' }:=⟨J2,F',Z1,by rw[Z2 (Ne.symm ne),Z1];rfl,ne,nfD,nfK,λc o z=>by
  rw[Z2 (Z6 z hD),Z2 (Z6 z hK),Z2 (Z6 z hD)];exact z,⟨hD,hK⟩,λj hj=>by simp at hj,⟨n3,p3,n2,p2⟩⟩
 refine JK (ks:=ks) (ps:=ps) F hr hb (by omega) hsp (λtps e Hc s' hlen A=>?_) ps [] 0 _ _ (by simp) (λj hj=>by simp) A0;have tupAt:∀ j,j < tps.length→∃ o n t u,s'.heap.get? (tps.getD j 0)=some o∧o.cls=.type "tuple"∧o.data=.seq #[Value.int (ks.getD j (0,0)).1 t,Value.int (ks.getD j (0,0)).2 u] n:=λj hj=>by
  obtain⟨_,vs,rvs,o,g1,g2,n,g3⟩:=A.inv.hok _ _ (A.tup j hj);cases rvs with
  | cons r1 r2=>cases r2 with
    | cons r3 r4=>cases r4 with
      | nil=>
        obtain⟨t,rfl⟩:=r1;obtain⟨u,rfl⟩:=r3;exact⟨o,n,t,u,g1,g2,g3⟩
 obtain⟨fs,k1,k2,k3⟩:=JX (h:=s'.heap) tps λa ha=>by
  obtain⟨j,hj,ej⟩:=List.mem_iff_getElem.mp ha;obtain⟨o,n,t,u,g1,g2,g3⟩:=tupAt j hj;have e0:tps.getD j 0=a:=by simp[List.getD,hj,ej]
  rw[e0] at g1;exact⟨o,n,_,_,t,u,g1,g2,g3⟩
 refine kat_kind (T:=.type "int") k1 (by omega) (λv hv=>by obtain⟨z,t,rfl⟩:=k3 v hv;exact Looks.of_pure rfl) (by decide) ?_;rw[List.length_map];have gd:∀ i,i < ps.length→(tps.map Value.ref).getD i Value.none=Value.ref (tps.getD i 0):=λi hi=>by
  have:i < tps.length:=by omega
  simp[List.getD,this]
 refine (Jx (n:=ps.length) (by omega)).wp (lt:=ltK ks) (λi j C hi hj c=>?_) ?_
 ·show kas_ask _ _ _ _ (tps.map Value.ref) i j C s';unfold kas_ask;rw[gd i hi,gd j hj];obtain⟨o1,n1,t1,u1,a1,a2,a3⟩:=tupAt i (by omega);obtain⟨o2,n2,t2,u2,b1,b2,b3⟩:=tupAt j (by omega);refine kat_lt a1 a3 b1 b3 ?_;refine kat_cons (wpAny_eqBool_int ?_)
  by_cases e1:(ks.getD i (0,0)).1=(ks.getD j (0,0)).1
  ·rw[beq_iff_eq.mpr e1];refine kat_yes (kat_cons (wpAny_eqBool_int ?_))
   by_cases e2:(ks.getD i (0,0)).2=(ks.getD j (0,0)).2
   ·rw[beq_iff_eq.mpr e2];refine kat_yes (kat_nil ?_);have el:ltK ks i j=false:=by unfold ltK;generalize ks.getD i (0,0)=a at e1 e2 ⊢;generalize ks.getD j (0,0)=b at e1 e2 ⊢;simp[e1,e2]
    rw[el] at c;exact c
   ·rw[beq_eq_false_iff_ne.mpr e2];refine kat_no (kat_one _ _ (lt_int ?_));show C _ s';have el:ltK ks i j=decide ((ks.getD i (0,0)).2 < (ks.getD j (0,0)).2):=by unfold ltK;generalize ks.getD i (0,0)=a at e1 ⊢;generalize ks.getD j (0,0)=b at e1 ⊢;simp[e1]
    rw[el] at c;exact c
  ·rw[beq_eq_false_iff_ne.mpr e1];refine kat_no (oneLt_int ?_);have el:ltK ks i j=decide ((ks.getD i (0,0)).1 < (ks.getD j (0,0)).1):=by unfold ltK;generalize ks.getD i (0,0)=a at e1 ⊢;generalize ks.getD j (0,0)=b at e1 ⊢;simp[e1]
   rw[el] at c;exact c
 ·have e2:((kas_sort ps.length).run (ltK ks)).toList=sortP (ltK ks) ps.length:=by unfold sortP;rw[if_neg (by omega)]
  rw[e2];have eo:(katRev false ((sortP (ltK ks) ps.length).map λi=>(katRev false (ps.map Value.ref)).getD i Value.none))=(Z0T ks ps).map Value.ref:=by
   show (sortP (ltK ks) ps.length).map (λi=>(ps.map Value.ref).getD i Value.none)=_;unfold Z0T;rw[List.map_map];refine List.map_congr_left λi hi=>?_;have:=sortP_lt _ _ i hi;simp[List.getD,this]
  rw[eo];refine A.end (by unfold Z0T;rw[List.length_map,sortP_length];omega) λs4 Hf If Sf eD=>?_;exact⟨.ref D,Hf,If,rfl,q D Hf Sf hD eD⟩
end
section
variable {prog:Program}{w:World}{A:Around}{EE:Value→Shared→Prop}{s:Shared}{hb:Heap}{L a kS:Addr}{m:Str→Option Value}{x:Value}{P:PySem.Fin→Shared→Prop}
theorem Z76 {v:Value}{e e1:Nat}(h:KatFin hb L m kS a [v] e e1 [x] (λs4=>P (.done (.ret .none)) s4) s):wpAny (model prog w) A (ksk_end a false #[x] e1 (.ref kS) #[v]) P EE s:=by
 unfold ksk_end;dsimp only;rw[if_neg (by decide),if_pos (show (#[x]:Array Value).size < 2 by simp),if_pos (show (#[x]:Array Value).size < 2 by simp)];refine wpAny_bind (wpAny_pure ?_);rw[StateT.run_pure];refine wpAny_bind (wpAny_pure ?_);dsimp only;exact kat_tail (b:=false) (ks:=[v]) (out:=[x]) (by rw[if_neg (by decide)];show ((#[v]:Array Value).zip #[x]).map (·.2) = #[x];simp) (by simp) (by simp) rfl h
theorem Z4v {f:Value}{n:Nat}{news:List (Addr×Obj)}(F:Fr hb L s.heap m)(N:News hb L s.heap news)(ho:s.heap.get? a=some (seqObj "list" #[x] n))(haL:a≠L)(ha0:hb.get? a=none)(hna:∀ p∈news,p.1≠a)
 (k:∀ kS e1 g,Fr hb L g m→News hb L g ((kS,seqObj "list" #[] 0)::(a,seqObj "list" #[] e1)::news)→a < kS→(∀ q∈news,q.1 < kS)→
   KatKeys prog w A hb L m kS f (λks e s2=>∃ v,ks=[v]∧KatFin hb L m kS a [v] e e1 [x] (λs4=>P (.done (.ret .none)) s4) s2) [x] [] 0 { s with heap:=g }) :
 wpAny (model prog w) A (ksk_tree a f false) P EE s:=by
 have lta:a < s.heap.objs.size:=Heap.lt_size ho;have sb:=Heap.SameBut.update s.heap a (Obj.mapSeq λ_=>(#[]:Array Value));obtain⟨e1,o1⟩:∃ e1,(s.heap.update a (Obj.mapSeq λ_=>(#[]:Array Value))).get? a=some (seqObj "list" #[] e1):=⟨_,get?_update_seq ho λ_=>#[]⟩;have G1:=kas_fr F sb haL ha0;have M1:=kas_news N sb hna;unfold ksk_tree;refine wpAny_bind (listItems_at ho rfl ?_);refine wpAny_bind (listUpdate_at ho rfl ?_ (by show 1≤_;rw[sizeLine_eq];omega) (Nat.zero_le _));refine wpAny_bind (seqEpoch_at o1 rfl ?_);refine wpAny_bind (wpAny_newTuple ?_ (by show 1≤_;rw[sizeLine_eq];omega));refine wpAny_bind (wpAny_newList ?_ (Nat.zero_le _));refine wpAny_holding ?_;have sz:((s.heap.update a (Obj.mapSeq λ_=>(#[]:Array Value))).push (seqObj "tuple" #[x] 0)).objs.size=s.heap.objs.size + 1:=by rw[size_push',Heap.size_update]
 have ltL:=(G1.push (seqObj "tuple" #[x] 0)).ns.lt;have at0:(((s.heap.update a (Obj.mapSeq λ_=>(#[]:Array Value))).push (seqObj "tuple" #[x] 0)).push (seqObj "list" #[] 0)).get? ((s.heap.update a (Obj.mapSeq λ_=>(#[]:Array Value))).push (seqObj "tuple" #[x] 0)).objs.size=some (seqObj "list" #[] 0):=Heap.get?_push_size _ rfl;have K:=k ((s.heap.update a (Obj.mapSeq λ_=>(#[]:Array Value))).push (seqObj "tuple" #[x] 0)).objs.size e1 _ ((G1.push (seqObj "tuple" #[x] 0)).push (seqObj "list" #[] 0)) (λp hp=>?_) (by rw[sz];exact Nat.lt_succ_of_lt lta) λq hq=>by rw[sz];exact Nat.lt_succ_of_lt (Heap.lt_size (N q hq).1)
 rotate_left
 ·rcases List.mem_cons.mp hp with rfl|hp
  ·exact⟨at0,Nat.ne_of_gt ltL,Heap.get?_none_of_le (Nat.le_trans F.above (Nat.le_of_lt ltL))⟩
  ·rcases List.mem_cons.mp hp with rfl|hp
   ·exact⟨Heap.get?_push_of_some _ (Heap.get?_push_of_some _ o1),haL,ha0⟩
   ·exact⟨Heap.get?_push_of_some _ (Heap.get?_push_of_some _ (M1 p hp).1),(M1 p hp).2⟩
 show wpAny (model prog w) A (ksk_rest a f false #[x] e1 _) P EE _;unfold ksk_rest;refine wpAny_bind (wpAny_rule ?_);show wpAny (model prog w) A (bind (forIn (#[x]:Array Value) PUnit.unit _) _) P EE _;rw[←Array.forIn_toList];refine wpAny_bind (wpAny_mono (kat_fold (n:=1) (by decide) (λy ks e s2 C hz hx=>?_) [x] [] 0 _ (by simp) at0 K) (λ_ s2 hd=>?_) λ_ _ z=>z)
 ·refine wpAny_bind (wpAny_attempt (wpAny_mono hx (λv s3 hk=>?_) λ_ _ hF=>hF.elim));obtain⟨nw,g,F',N',U,c⟩:=hk;obtain⟨pre,post,e0,hg,x1,x2⟩:=U.split;rw[e0] at N';have nk:=N' _ (List.mem_append_right _ (.head _));have s1:=Heap.SameBut.update s3.heap ((s.heap.update a (Obj.mapSeq λ_=>(#[]:Array Value))).push (seqObj "tuple" #[x] 0)).objs.size (Obj.mapSeq (·.push v));have ea:(List.toArray ks).push v=List.toArray (ks++[v]):=by simp
  obtain⟨c2,hc2⟩:∃ c2,(s3.heap.update ((s.heap.update a (Obj.mapSeq λ_=>(#[]:Array Value))).push (seqObj "tuple" #[x] 0)).objs.size (Obj.mapSeq (·.push v))).get? ((s.heap.update a (Obj.mapSeq λ_=>(#[]:Array Value))).push (seqObj "tuple" #[x] 0)).objs.size=some (seqObj "list" (List.toArray (ks++[v])) c2):=⟨_,by rw[←ea];exact get?_update_seq nk.1 (·.push v)⟩;dsimp only;refine wpAny_bind (listUpdate_at nk.1 rfl ?_ (by rw[List.size_toArray,sizeLine_eq];omega) (Nat.le_trans (Nat.le_of_eq (Array.size_push ..)) (by rw[List.size_toArray,sizeLine_eq];omega)));exact wpAny_pure ⟨rfl,v,c2,hc2,c _ c2 (kas_fr F' s1 nk.2.1 nk.2.2) (by rw[hg];exact news_set N' x1 x2 s1 hc2)⟩
 ·obtain⟨ks,e,hk',hl,v,rfl,fin⟩:=hd;dsimp only;refine wpAny_bind (listItems_at hk' rfl ?_);exact Z76 fin
theorem Z3N {l:Addr}{f:Addr}{news:List (Addr×Obj)}{Q:Value→Shared→Prop}(F:Fr hb L s.heap m)(N:News hb L s.heap news)(hl:s.heap.IsList l #[x])
 (k:∀ D kS e1 g,Fr hb L g m→News hb L g ((kS,seqObj "list" #[] 0)::(D,seqObj "list" #[] e1)::news)→D < kS→(∀ q∈news,q.1 < D)→
   KatKeys prog w A.in1.in1 hb L m kS (.ref f) (λks e s2=>∃ v,ks=[v]∧KatFin hb L m kS D [v] e e1 [x] (λs4=>Q (.ref D) s4) s2) [x] [] 0 { s with heap:=g }) :
 wpAny (model prog w) A (call (.builtin "sorted") [.ref l] [(Str.ofString "key",.ref f)]) Q EE s:=by
 refine call_function_entry_kw kind_sorted plain_sorted entry_sorted (ksk_s1 _ _) ?_;unfold Builtin.«sorted»;refine wpAny_bind (m:=checkCount "sorted" 1 1 _) (wpAny_pure ?_);refine wpAny_bind (collect_list hl ?_ (by show 1≤_;rw[sizeLine_eq];omega));refine wpAny_bind (wpAny_newList ?_ (by show 1≤_;rw[sizeLine_eq];omega));have sz:((s.heap.push (seqObj "list" #[] 0)).update s.heap.objs.size (Obj.mapSeq (·++#[x]))).objs.size=s.heap.objs.size + 1:=by
  rw[Heap.size_update,size_push']
 have at1:(((s.heap.push (seqObj "list" #[] 0)).update s.heap.objs.size (Obj.mapSeq (·++#[x]))).push (seqObj "list" #[x] 0)).get? (s.heap.objs.size + 1)=some (seqObj "list" #[x] 0):=by
  rw[←sz];exact Heap.get?_push_size _ rfl
 have kp:∀ b o,s.heap.get? b=some o→(((s.heap.push (seqObj "list" #[] 0)).update s.heap.objs.size (Obj.mapSeq (·++#[x]))).push (seqObj "list" #[x] 0)).get? b=some o:=λb o q=>by
  have lt:b < s.heap.objs.size:=Heap.lt_size q;rw[Heap.get?_push_ne _ _ _ (by rw[sz];exact Nat.ne_of_lt (Nat.lt_succ_of_lt lt)),Heap.get?_update_ne _ _ _ _ (Nat.ne_of_lt lt),Heap.get?_push_ne _ _ _ (Nat.ne_of_lt lt)];exact q
 have ltL:L < s.heap.objs.size:=F.ns.lt;show wpAny (model prog w) _ _ _ _ { s with heap:=((s.heap.push (seqObj "list" #[] 0)).update s.heap.objs.size (Obj.mapSeq (·++#[x]))).push (seqObj "list" #[x] 0) };rw[sz];refine wpAny_bind (wpAny_holding (wpAny_call_entry_kw slot_list_sort ⟨_,at1,rfl⟩ entry_list_sort ?body (ksk_l1 _ _)))
 case body=>
  have ht:=ksk_t1 f (s.heap.objs.size + 1);show wpAny (model prog w) A.in1.in1 (Builtin.«list.sort» ⟨[.ref (s.heap.objs.size + 1)],[(Str.ofString "key",.ref f)]⟩) _ _ _;rw[ht];refine Z4v (s:={ s with heap:=((s.heap.push (seqObj "list" #[] 0)).update s.heap.objs.size (Obj.mapSeq (·++#[x]))).push (seqObj "list" #[x] 0) }) (F.kept kp) (N.grown kp) at1 (Nat.ne_of_gt (Nat.lt_succ_of_lt ltL))
   (Heap.get?_none_of_le (Nat.le_trans F.above (Nat.le_succ_of_le (Nat.le_of_lt ltL)))) (λp hp=>Nat.ne_of_lt (Nat.lt_succ_of_lt (Heap.lt_size (N p hp).1))) λkS e1 g F' N' l0 l1=>?_
  refine kat_keys_mono (k _ kS e1 g F' N' l0 λq hq=>Nat.lt_succ_of_lt (Heap.lt_size (N q hq).1)) λks e s2 hl2 ⟨v,ev,hd⟩=>⟨v,ev,hd.mono λs4 hq=>⟨_,rfl,wpAny_pure ⟨_,rfl,hq⟩⟩⟩
end
section
variable {X:Cx}{pins:List (Addr×Obj)}{σ:St}{H:Hp}{s:Shared}{k:Nat}{f:Addr}{fd:FuncData}{p:Str}{sp:Sp}
theorem Z1j:∀ {as:List Addr}{its:List Value},Vals (as.map V.ref) its→its=as.map Value.ref
 | [],_,.nil=>rfl
 | a::as,_,.cons r1 r2=>by rw[Z1j r2,show _=Value.ref a from r1];rfl
theorem Z33 {l a:Addr}{ks:List (Int×Int)}{Q:VK}(F:FnOk X.prog X.w X.K X.mg X.base CX0 k f fd [p] sp)(hr:Room (k + 2) X.A)(hb:Binds X.K fd [p] [])(I:Inv X pins σ H s)(hl:SqL X.K H l [V.ref a])
 (hsp:∀ Hc,Same H Hc→∀ i,i < [a].length→sp [.ref ([a].getD i 0)] Hc (λv H2=>Same Hc H2∧∃ tp,v=.ref tp∧H2 tp=some (.tup (Z0n (ks.getD i (0,0))))) E0)
 (q:∀ D Hc,Same H Hc→H D=none→Hc D=some (.lst [V.ref a])→Q (.ref D) Hc) :
 wpAny (model X.prog X.w) X.A (call (.builtin "sorted") [.ref l] [(Str.ofString "key",.ref f)]) (EP X pins σ Q) X.xe s:=by
 obtain⟨its,rv,pp,hz⟩:=I.list hl;have ei:its=[Value.ref a]:=Z1j (as:=[a]) rv;subst ei;obtain⟨m,F0⟩:=I.fr;refine Z3N (f:=f) F0 Xw pp.isList λD kS e1 h' F' N' l0 lt=>?_;obtain⟨J,hD,hK⟩:=I.byNews2 (t':=s.toks) F0 F' N' l0 lt;obtain⟨n1,n2,n3⟩:=N' (D,_) (.tail _ (.head _));obtain⟨p1,p2,p3⟩:=N' (kS,_) (.head _);have ne:D≠kS:=Nat.ne_of_lt l0;have nfD:NF X D:=λo u z=>by have:=I.base.frzs _ _ _ z;rw[hD] at this;cases this
 have nfK:NF X kS:=λo u z=>by have:=I.base.frzs _ _ _ z;rw[hK] at this;cases this
 have J1:=J.freezeL (d:=kS) Z1 p1;rw[Y3] at J1;have J2:=J1.freezeL (d:=D) (xs:=[]) (by rw[Z2 ne,Z1]) n1;have A0:KeysAt X pins σ H m D kS e1 ks [] 0 _ { s with heap:=h' }:=⟨J2,F',Z1,by rw[Z2 (Ne.symm ne),Z1];rfl,ne,nfD,nfK,λc o z=>by
  rw[Z2 (Z6 z hD),Z2 (Z6 z hK),Z2 (Z6 z hD)];exact z,⟨hD,hK⟩,λj hj=>by simp at hj,⟨n3,p3,n2,p2⟩⟩
 refine JK (ks:=ks) (ps:=[a]) F hr hb (by simp) hsp (λtps e Hc s' hlen A=>?_) [a] [] 0 _ _ (by simp) (λj hj=>by simp) A0;obtain⟨tp,rfl⟩:∃ tp,tps=[tp]:=by
  match tps,hlen with
  | [tp],_=>exact⟨tp,rfl⟩
 refine⟨.ref tp,rfl,?_⟩;refine A.end (out:=[a]) (by simp) λs4 Hf If Sf eD=>?_;exact⟨.ref D,Hf,If,rfl,q D Hf Sf hD eD⟩
end
inductive EntF (w:World):List DictEntry→List (Str×Addr)→Prop
 | nil:EntF w [] []
 | cons {x:Str}{t:Tok}{a:Addr}{r:List DictEntry}{kvs:List (Str×Addr)}:EntF w r kvs→EntF w (⟨PyData.keyHash w.params x,.str x t,.ref a⟩::r) ((x,a)::kvs)
noncomputable def DictF (w:World)(K:Frag)(d:Addr)(kvs:List (Str×Addr)):Prop:=∃ (o:Obj) (es:Array DictEntry) (ep:Nat),K.lookup d=some o∧o.ExactDict∧o.data=.dict es ep∧EntF w es.toList kvs∧(kvs.map (·.1)).Nodup
theorem EntF.keys {P:Program}{w:World}:∀ {es:List DictEntry}{kvs:List (Str×Addr)},EntF w es kvs→∀ e∈es,∃ k,(Zv P w).is k e.key=true∧e.hash=(Zv P w).hash k
 | _,_,h=>by
   induction h with
   | nil=>intro e he;cases he
   | @cons x t a r kvs q ih=>
     intro e he
     rcases List.mem_cons.mp he with rfl|he
     ·exact⟨.inr x,Z09 x t,rfl⟩
     ·exact ih e he
theorem EntF.pairs {P:Program}{w:World}:∀ {es:List DictEntry}{kvs:List (Str×Addr)},EntF w es kvs→Pairs (Zv P w) es (kvs.map λp=>((.inr p.1:Key),Value.ref p.2))
 | _,_,h=>by
   induction h with
   | nil=>exact .nil
   | @cons x t a r kvs q ih=>exact .cons (Z09 x t) rfl ih
theorem DictF.of {w:World}{K:Frag}{d:Addr}{kvs:List (Str×Addr)}{h:Heap}{P:Program}(D:DictF w K d kvs)(X:K.In h):h.DictOf (Zv P w) d (kvs.map λp=>((.inr p.1:Key),Value.ref p.2)):=by
 obtain⟨o,es,ep,a1,a2,a3,a4,a5⟩:=D;refine⟨o,es,ep,X _ _ a1,a2,a3,λe he=>a4.keys e (by simpa using he),a4.pairs,?_⟩;rw[List.map_map];have:(List.map ((λx=>x.fst) ∘ λp:Str×Addr=>((Sum.inr p.1:Key),Value.ref p.2)) kvs)=(kvs.map (·.1)).map (Sum.inr:Str→Key):=by rw[List.map_map];rfl
 rw[this];exact List.Pairwise.map _ (λa b n e=>n (Sum.inr.inj e)) a5
theorem Z4z {kvs:List (Str×Addr)}{x:Str}{a:Addr}(h:kvs.lookup x=some a):valueAt (kvs.map λp=>((.inr p.1:Key),Value.ref p.2)) (.inr x)=some (.ref a):=by
 unfold valueAt
 induction kvs with
 | nil=>cases h
 | cons p r ih=>
   obtain⟨y,b⟩:=p
   by_cases e:x=y
   ·subst e;have:some b=some a:=by simpa [List.lookup] using h
    cases this;simp
   ·have h2:r.lookup x=some a:=by
     have:(x == y)=false:=beq_eq_false_iff_ne.mpr e
     simpa [List.lookup,this] using h
    have ne:¬ (Sum.inr y:Key)=Sum.inr x:=λz=>e (Sum.inr.inj z).symm;rw[List.map_cons,List.find?_cons_of_neg (by simpa using ne)];exact ih h2
section
variable {X:Cx}{i:Expr}{ty:TE}{d:Addr}{x:Str}{kvs:List (Str×Addr)}{p pos:Pos}
noncomputable def Z6z (kvs:List (Str×Addr))(ty:TE):TE:=λσ H Q=>ty σ H λy H1=>∃ key a,y=.str key∧kvs.lookup key=some a∧Q (.ref a) H1
theorem rd_getF {kvs:List (Str×Addr)}{ty:TE}{σ:St}{H:Hp}{Q:VK}(q:ty σ H λy H1=>∃ key a,y=.str key∧kvs.lookup key=some a∧Q (.ref a) H1):Z6z kvs ty σ H Q:=q
theorem Z7v (hg:Gl X x)(hm:X.mg x=some (.ref d))(D:DictF X.w X.K d kvs)(hi:PE X i ty)(hs:Z5Y i)(hd:(x == ("__debug__" : Str))=false:=by decide):PE X (.Subscript (.Name x p) i pos) (Z6z kvs ty):=by
 intro pins s σ H Q I h;refine Z3D PySem.F.slot_dict_getitem.lookup hs (YR I hg hm (thn (hi pins _ σ H _ I h) λiv s2 zq=>?_) hd);obtain⟨y,H2,I2,ry,key,a,ey,lk,q⟩:=zq;subst ey;have dd:=D.of (P:=X.prog) I2.kIn;exact⟨dd.mapOf.typeIs,wpAny_getItem_of (JD (k:=.inr key) ry) dd.mapOf (Z4z lk) ⟨.ref a,H2,I2.tok _,rfl,q⟩⟩
end
section
variable {X:Cx}{CX:CXT}{E:XK}{j:Nat}{x:Str}{e:Expr}{es:List Expr}{t:TA}{p pos:Pos}
structure OneFn (X:Cx)(CX:CXT)(f:Addr)(sp:Sp):Prop where
 ok:∃ k fd ps,FnOk X.prog X.w X.K X.mg X.base CX k f fd ps sp∧Room k X.A∧Binds X.K fd ps []
 kp:keepIn X.K (.ref f)=true
noncomputable def Z4w (X:Cx)(CX:CXT)(E:XK)(j:Nat)(t:TA):TE:=λσ H Q=>∃ f sp,σ[j]? = some (some (.ref f))∧OneFn X CX f sp∧t σ H λvs H1=>sp vs H1 Q E
theorem Z0E {σ:St}{H:Hp}{Q:VK}{f:Addr}{sp:Sp}(h1:σ[j]? = some (some (.ref f)))(h2:OneFn X CX f sp)(q:t σ H λvs H1=>sp vs H1 Q E):Z4w X CX E j t σ H Q:=⟨f,sp,h1,h2,q⟩
theorem Z5A (hv:PE X (.Name x p) (Z0C j))(hx:X1 CX X E)(ha:PA X (e::es) t)
 (he:starEach (e::es) X.env=(false,eval e X.env)::starEach es X.env:=by rfl) (hpl:(backTo pos (starEach es X.env)).any (·.1)=false:=by rfl):PE X (.Call (.Name x p) (e::es) [] pos) (Z4w X CX E j t):=by
 intro pins s σ H Q I h;obtain⟨f,sp,h1,h2,q⟩:=h;refine wpAny_Call_Name_kw (thn (hv pins s σ H (λv H1=>v=.ref f∧H1=H) I ⟨_,h1,rfl,rfl⟩) λu s1 zq=>?_);obtain⟨v,H1,I1,rv,ev,eH⟩:=zq;subst ev eH;obtain rfl:u=Value.ref f:=rv;obtain⟨⟨k,fd,ps,F,hr,hb⟩,kp⟩:=h2;refine callWith_K (h₀:=X.base) I.ok.mod.kin kp (thn (ha pos pins s1 σ H1 _ I1 q) λus s2 ⟨vs,H2,I2,r,q2⟩=>⟨I2.kIn,?_⟩) he hpl;exact JY (dvs:=[]) F hr hb .nil hx I2 r (by rw[List.append_nil];exact q2)
end
section
variable {prog:Program}{w:World}{A:Around}{EE:Value→Shared→Prop}{s:Shared}
end
section
variable {X:Cx}
end
section
variable {prog:Program}{w:World}{A:Around}{EE:Value→Shared→Prop}{s:Shared}
theorem Z90 {es:Array DictEntry}(few:es.size≤1):es = #[]∨∃ e,es = #[e]:=by
 obtain⟨l⟩:=es;cases l with
 | nil=>exact .inl rfl
 | cons e t=>
   cases t with
   | nil=>exact .inr ⟨e,rfl⟩
   | cons a b=>exact absurd (Nat.le_of_succ_le_succ few) (Nat.not_succ_le_zero _)
end
section
variable {X:Cx}
end
theorem Z1x {d:Addr}{o:Obj}{kvs:List (Key×V)}{g:TG}{tb:TS}{nx:St→Hp→Prop}{rt:VK}{σ:St}{H:Hp}(Pv:Nat→St→Hp→Prop)(h0:Pv 0 σ H)(hl:∀ i σ H,i≤kvs.length→Pv i σ H→H d=some (.frz o (.dK kvs)))
 (hs:∀ i k x p σ H,kvs[i]? = some (k,x)→Pv i σ H→H p=none→g (.ref p) σ (upd H p (.tup [kV k,x])) λσ2 H2=>tb { nx:=Pv (i + 1),rt:=rt,bk:=nx,ct:=Pv (i + 1) } σ2 H2) (hd:∀ σ H,Pv kvs.length σ H→nx σ H) :
 ∃ W:Nat→Nat→St→Hp→Prop,(∃ m,W 0 m σ H)∧∀ i m σ H,W i m σ H→
   ((Itd d o kvs).stop i H∧nx σ H)∨((Itd d o kvs).go i H∧∃ N:St→Hp→Prop,(∀ σ' H',N σ' H'→∃ m',m' < m∧W (i + 1) m' σ' H')∧∀ x H',(Itd d o kvs).yld i H x H'→g x σ H' λσ2 H2=>tb { nx:=N,rt:=rt,bk:=nx,ct:=N } σ2 H2):=by
 refine⟨λi m σ H=>m=kvs.length - i∧i≤kvs.length∧Pv i σ H,⟨kvs.length,by simp,Nat.zero_le _,h0⟩,?_⟩;rintro i m σ H ⟨rfl,hi,p⟩;have q:=hl i σ H hi p
 by_cases hlt:i < kvs.length
 ·refine .inr ⟨⟨q,hlt⟩,Pv (i + 1),λσ' H' p'=>⟨kvs.length - (i + 1),by omega,rfl,hlt,p'⟩,λx H' y=>?_⟩;obtain⟨p1,k,v,rfl,hp,rfl,e⟩:=y;exact hs i k v p1 σ H e p hp
 ·have e:i=kvs.length:=by omega
  subst e;exact .inl ⟨⟨q,Nat.le_refl _⟩,hd σ H p⟩
noncomputable def Nx (u n:St→Hp→Prop):Prop:=∀ σ H,u σ H→n σ H
theorem rd_seqV {t u:TS}{D:Ends}{σ:St}{H:Hp}(q:∀ n:St→Hp→Prop,Nx (u D) n→t { D with nx:=n } σ H):Z2c t u D σ H:=q (u D) λ_ _ h=>h
theorem Nx.go {u n:St→Hp→Prop}{σ:St}{H:Hp}(h:Nx u n)(q:u σ H):n σ H:=h _ _ q
section
variable {prog:Program}{w:World}{A:Around}{EE:Value→Shared→Prop}{s:Shared}{R:Result→Shared→Prop}{I:Addr}{fp wr:List Addr}{G:Array GenState→Array GenState→Prop}{St:Nat→Shared→Prop}
end
section
variable {X:Cx}
end
end L2
set_option autoImplicit false
namespace L2
open PySem PySem.Spec PyProof.Rows PySem.W
section
variable {X:Cx}{k:Nat}{f C:Addr}{fd:FuncData}{ps:List Str}{sp:Sp}{m fx:Str}{e o:Expr}{es:List Expr}{ta:TE}{t:TA}{p pos apos spos:Pos}
noncomputable def Z3u (C:Addr)(m:Str)(sp:Sp)(ta:TE)(t:TA):TSX:=λxx D σ H=>ta σ H λx H1=>∃ a dx fs,x=.ref a∧H1 a=some (.ins C dx fs)∧fs.lookup m=none∧t σ H1 λvs H2=>sp (x::vs) H2 (λ_ H3=>D.nx σ H3) (xx σ)
theorem Xp {pl:Sem Bool}(ho:PE X.nox o ta)(c:Cls X.K C)(hm:Meth X.K C m f)(F:FnOk X.prog X.w X.K X.mg X.base (CX1 X.prog X.w) k f fd ps sp)(hr:Room k X.A)(hb:Binds X.K fd ps [])(ha:PA X.nox (e::es) t)
 (hst:starEach (e::es) X.env=(false,eval e X.env)::starEach es X.env:=by rfl) (hpl:(backTo pos (starEach es X.env)).any (·.1)=false:=by rfl)
 (ht:eval (.Call (.Attribute o m apos) (e::es) [] pos) X.env=(do
   let ov←eval o X.env
   standAt apos.atName
   let (f,first)←holding [ov] (getMethod ov m pl)
   callWith pos f first (backTo pos (starEach (e::es) X.env)) (backToKw pos (keywordEach [] X.env))):=by rfl)
 (hsw:swapsWith (.Call (.Attribute o m apos) (e::es) [] pos) none spos.line X.env=pure false:=by rfl) :
 PSX X (.Expr (.Call (.Attribute o m apos) (e::es) [] pos) spos) (Z3u C m sp ta t):=by
 intro pins s σ H D xx I h;refine wpAny_Expr_any ?_ I.quiet hsw;refine methodCall_KW (pl:=pl) (wpAny_mono (ho pins s σ H _ (I.wish _) h) (λu s1 zq=>?_) λ_ _ z=>z.elim) ht;obtain⟨x,H1,I1',rx,a,dx,fs,ex,ea,l,q⟩:=zq;have I1:Inv X pins σ H1 s1:=I1'.unwish;subst ex;obtain rfl:u=Value.ref a:=rx;refine JH I1 ea c hm l ?_;refine callWith_K (first:=[.ref a]) (h₀:=X.base) I.ok.mod.kin hm.kp (wpAny_mono (ha pos pins s1 σ H1 _ (I1.wish _) q) (λus s2 ⟨vs,H2,I2',r,q2⟩=>⟨I2'.kIn,?_⟩) λ_ _ z=>z.elim) hst hpl;have I2:Inv X pins σ H2 s2:=I2'.unwish;refine wpAny_mono (Z8B (us:=.ref a::us) (vs:=.ref a::vs) F hr hb I2 (.cons rfl r) q2) (λv s3 zq=>?_) λ_ _ z=>z;obtain⟨y,H3,I3,ry,q3⟩:=zq;exact⟨σ,H3,I3,q3⟩
end
section
variable {prog:Program}{w:World}{A:Around}{E:Value→Shared→Prop}
end
section
variable {X:Cx}{tg:Expr}
end
section
variable {X:Cx}{pins:List (Addr×Obj)}{σ:St}{H H':Hp}{s s':Shared}
end
section
variable {X:Cx}{k ix:Nat}{f C:Addr}{fd:FuncData}{ps:List Str}{sp:Sp}{m xn fx:Str}{o:Expr}{ta:TE}{p pos apos spos px:Pos}
end
theorem Z78 {X:Cx}{body:List Stmt}{t:TS}{h₀:ExceptHandler}{hs:List ExceptHandler}{pos:Pos}(hb:PSs X.nox body t):PS X (.Try body (h₀::hs) [] [] pos) t:=by
 intro pins s σ H D0 I h;refine wpAny_Try_except (wpAny_mono (hb pins s σ H D0 (I.wish _) h) (λf s1 q=>?_) λee s' q=>q.elim);have q':=SP.unwish q;cases f with
 | next=>exact wpAny_execs_nil q'
 | ret v=>exact q'
 | brk=>exact q'
 | cont=>exact q'
section
variable {prog:Program}{w:World}{A:Around}{EE:Value→Shared→Prop}{s:Shared}{hb:Heap}{L a kS:Addr}{m:Str→Option Value}{P:PySem.Fin→Shared→Prop}
end
section
variable {X:Cx}{pins:List (Addr×Obj)}{σ:St}{H:Hp}{s:Shared}{k:Nat}{f:Addr}{fd:FuncData}{p:Str}{sp:Sp}
end
section
variable {prog:Program}{w:World}{A:Around}{E:Value→Shared→Prop}{s:Shared}{κ:SortKind}{S:Keyed→Prop}{L:Keyed→Keyed→Bool}{st:SortSt}
noncomputable def Z3C:Bool→Keyed→Array Keyed→Nat→Nat→Nat→StateT SortSt Sem (Option Nat):=sortPriv% PySem.Builtin.gallop
noncomputable def Z61:Array Keyed→Array Keyed→StateT SortSt Sem (Array Keyed):=sortPriv% PySem.Builtin.mergeLo
noncomputable def Z5s:Array Keyed→Array Keyed→StateT SortSt Sem (Array Keyed):=sortPriv% PySem.Builtin.mergeHi
noncomputable def XH (prog:Program)(w:World)(A:Around)(s:Shared)(κ:SortKind)(S:Keyed→Prop)(L:Keyed→Keyed→Bool):Prop:=
 ∀ x y,S x→S y→∀ C:Bool→Shared→Prop,C (L x y) s→wpAny (model prog w) A (keyLt' κ x.1 y.1) C (λ_ _=>False) s
theorem XM {a:Array Keyed}{i:Nat}{x:Keyed}{Q:Keyed→SortSt→Prop}(h:a[i]? = some x)(q:Q x st):wpS (model prog w) A E s (elem' a i) Q st:=by
 rw[elem'_eq,h];exact wpS_pure q
theorem Z2d {x y:Keyed}{Q:Option Bool→SortSt→Prop}(hc:XH prog w A s κ S L)(hk:kindOf st=κ)(sx:S x)(sy:S y)(q:Q (some (L x y)) st):wpS (model prog w) A E s (lt' x y) Q st:=by
 rw[lt'_eq];refine wpS_bind (wpS_get ?_);rw[hk];refine wpS_bind (wpS_lift (wpAny_attempt (wpAny_mono (hc x y sx sy (λc s'=>c=L x y∧s'=s) ⟨rfl,rfl⟩) (λc s' z=>?_) λ_ _ z=>z.elim)));obtain⟨rfl,rfl⟩:=z;exact⟨rfl,wpS_pure q⟩
theorem Z2A {i j:Nat}{x y:Keyed}{Q:Option Bool→SortSt→Prop}(hc:XH prog w A s κ S L)(hk:kindOf st=κ)(hi:(arrOf st)[i]? = some x)(hj:(arrOf st)[j]? = some y)(sx:S x)(sy:S y)(q:Q (some (L x y)) st) :
 wpS (model prog w) A E s (ltAt' i j) Q st:=by
 rw[ltAt'_eq];refine wpS_bind (wpS_get ?_);exact wpS_bind (XM hi (wpS_bind (XM hj (Z2d hc hk sx sy q))))
theorem Z85 {nrem r:Nat}{Q:AscSt→SortSt→Prop}(hc:XH prog w A s κ S L)(hk:kindOf st=κ)(hS:∀ x∈arrOf st,S x)(hz:nrem≤(arrOf st).size)(r1:1≤r)(rn:r≤nrem)
 (up:∀ i x y,1≤i→i < r→(arrOf st)[i - 1]? = some x→(arrOf st)[i]? = some y→L y x=false)
 (stop:r=nrem∨∀ x y,(arrOf st)[r - 1]? = some x→(arrOf st)[r]? = some y→L y x=true) (q:Q (none,r) st):wpS (model prog w) A E s (ascLoop 1 nrem) Q st:=by
 unfold ascLoop;refine wpS_forRange (I:=λx c st'=>st'=st∧c=(none,x)∧x≤r) ?step ?fin ⟨rfl,rfl,r1⟩
 case fin=>
  rintro c st' ⟨rfl,rfl,le⟩;rw[show max 1 nrem=r by omega];exact q
 case step=>
  rintro x c st' hx hn ⟨rfl,rfl,le⟩;dsimp only;have b1:x < (arrOf st').size:=by omega
  have b2:x - 1 < (arrOf st').size:=by omega
  have g1:=Array.getElem?_eq_getElem b1;have g2:=Array.getElem?_eq_getElem b2;refine wpS_bind (Z2A hc hk g1 g2 (hS _ (Array.getElem_mem b1)) (hS _ (Array.getElem_mem b2)) ?_);dsimp only
  by_cases e:x=r
  ·subst e
   rcases stop with e|e
   ·omega
   ·rw[e _ _ g2 g1,if_pos rfl];exact wpS_pure q
  ·rw[up x _ _ hx (by omega) g2 g1,if_neg (by simp)];exact wpS_pure ⟨rfl,rfl,by omega⟩
theorem Z6n {k:Keyed}{a:Array Keyed}{n u:Nat}{Q:Option Nat→SortSt→Prop}(hc:XH prog w A s κ S L)(hk:kindOf st=κ)(Sk:S k)(hS:∀ x∈a,S x)(hz:n≤a.size)(hu:u < n)
 (lo:∀ i x,i < u→a[i]? = some x→L k x=false) (hi:∀ i x,u≤i→i < n→a[i]? = some x→L k x=true) (q:Q (some u) st):wpS (model prog w) A E s (Z3C false k a 0 n 0) Q st:=by
 have bey:∀ (i:Nat) (Q':Option Bool→SortSt→Prop),i < n→Q' (some (decide (i < u))) st→wpS (model prog w) A E s (do let x←elem' a (0 + i);if false=true then lt' x k else (do let r←lt' k x;pure (r.map (!·)))) Q' st:=λi Q' hi' q'=>by
  have b1:i < a.size:=by omega
  have g1:=Array.getElem?_eq_getElem b1;rw[Nat.zero_add];refine wpS_bind (XM g1 ?_);rw[if_neg (by simp)];refine wpS_bind (Z2d hc hk Sk (hS _ (Array.getElem_mem b1)) (wpS_pure ?_));show Q' (some (!L k a[i])) st
  by_cases e:i < u
  ·rw[lo i _ e g1];rw[decide_eq_true e] at q';exact q'
  ·rw[hi i _ (by omega) hi' g1];rw[decide_eq_false e] at q';exact q'
 have bin:∀ (l h:Nat),l≤u→u≤h→h≤n→∀ (Q':Option (Option Nat)×Nat×Nat→SortSt→Prop),Q' (none,u,u) st→wpS (model prog w) A E s (forIn [0:n] ((none,l,h):Option (Option Nat)×Nat×Nat) λx __s=>
  if __s.snd.fst ≥ __s.snd.snd then pure (ForInStep.done (none,__s.snd.fst,__s.snd.snd))
  else do
   let __x←(do let x←elem' a (0 + (__s.snd.fst + (__s.snd.snd - __s.snd.fst) / 2));if false=true then lt' x k else (do let r←lt' k x;pure (r.map (!·))))
   match __x with
   | some more=>if more=true then pure (ForInStep.yield (none,__s.snd.fst + (__s.snd.snd - __s.snd.fst) / 2 + 1,__s.snd.snd)) else pure (ForInStep.yield (none,__s.snd.fst,__s.snd.fst + (__s.snd.snd - __s.snd.fst) / 2))
   | x=>pure (ForInStep.done (some none,__s.snd.fst,__s.snd.snd))) Q' st:=λl h l1 h1 h2 Q' q'=>by
  refine wpS_forRange (I:=λx c st'=>st'=st∧∃ l h,c=(none,l,h)∧l≤u∧u≤h∧h≤n∧h - l + x≤n) ?step ?fin ⟨rfl,l,h,rfl,l1,h1,h2,by omega⟩
  case fin=>
   rintro c st' ⟨rfl,l,h,rfl,a1,a2,a3,a4⟩;have e1:l=u:=by omega
   have e2:h=u:=by omega
   rw[e1,e2];exact q'
  case step=>
   rintro x c st' _ hx ⟨rfl,l,h,rfl,a1,a2,a3,a4⟩;dsimp only
   by_cases e:l ≥ h
   ·rw[if_pos e];have e1:l=u:=by omega
    have e2:h=u:=by omega
    refine wpS_pure ?_;rw[e1,e2];exact q'
   ·rw[if_neg e];refine wpS_bind (bey _ _ (by omega) ?_);dsimp only
    by_cases e2:l + (h - l) / 2 < u
    ·rw[decide_eq_true e2,if_pos rfl];exact wpS_pure ⟨rfl,_,_,rfl,by omega,by omega,by omega,by omega⟩
    ·rw[decide_eq_false e2,if_neg (by simp)];exact wpS_pure ⟨rfl,_,_,rfl,by omega,by omega,by omega,by omega⟩
 refine wpS_bind (bey 0 _ (by omega) ?_);dsimp only
 by_cases e0:0 < u
 ·rw[decide_eq_true e0,if_pos rfl];refine wpS_bind (wpS_mono (wpS_forRange (I:=λx c st'=>st'=st∧∃ l o,c=(none,l,o)∧l < u∧l < o∧x + 1≤o) (Q:=λc st'=>st'=st∧∃ l o,c=(none,l,o)∧l < u∧u≤min o n) ?step ?fin ⟨rfl,0,1,rfl,e0,by omega,by omega⟩) ?post)
  case fin=>
   rintro c st' ⟨rfl,l,o,rfl,a1,a2,a3⟩;exact⟨rfl,l,o,rfl,a1,by omega⟩
  case step=>
   rintro x c st' _ hx ⟨rfl,l,o,rfl,a1,a2,a3⟩;dsimp only
   by_cases e:o ≥ n - 0
   ·rw[if_pos e];exact wpS_pure ⟨rfl,l,o,rfl,a1,by omega⟩
   ·rw[if_neg e];refine wpS_bind (bey (0 + o) _ (by omega) ?_);dsimp only
    by_cases e2:0 + o < u
    ·rw[decide_eq_true e2,if_neg (by simp)];exact wpS_pure ⟨rfl,_,_,rfl,by omega,by omega,by omega⟩
    ·rw[decide_eq_false e2,if_pos (by simp)];exact wpS_pure ⟨rfl,l,o,rfl,a1,by omega⟩
  case post=>
   rintro c st' ⟨rfl,l,o,rfl,a1,a2⟩;dsimp only;exact wpS_bind (bin _ _ (by omega) (by omega) (by omega) _ (wpS_pure q))
 ·have e1:u=0:=by omega
  subst e1;rw[decide_eq_false (Nat.lt_irrefl 0),if_neg (by simp)];refine wpS_bind (wpS_mono (wpS_forRange (I:=λx c st'=>st'=st∧c=(none,0,1)) (Q:=λc st'=>st'=st∧c=(none,0,1)) ?_ (λ_ _ h=>h) ⟨rfl,rfl⟩) ?_)
  ·rintro x c st' _ _ ⟨rfl,rfl⟩;dsimp only;rw[if_pos (by decide)];exact wpS_pure ⟨rfl,rfl⟩
  rintro c st' ⟨rfl,rfl⟩;dsimp only;exact wpS_bind (bin _ _ (by decide) (by decide) (by omega) _ (wpS_pure q))
theorem Z5N {k x:Keyed}{a:Array Keyed}{b:Nat}{Q:Option Nat→SortSt→Prop}(hc:XH prog w A s κ S L)(hk:kindOf st=κ)(Sk:S k)(Sx:S x)(g:a[b]? = some x)(h:L x k=true)(q:Q (some 1) st):wpS (model prog w) A E s (Z3C true k a b 1 0) Q st:=by
 refine wpS_bind (wpS_bind (XM (x:=x) (by simpa using g) ?_));rw[if_pos rfl];refine Z2d hc hk Sx Sk ?_;rw[h];dsimp only;rw[if_pos rfl];refine wpS_bind (wpS_mono (wpS_forRange (I:=λx c st'=>st'=st∧c=(none,0,1)) (Q:=λc st'=>st'=st∧c=(none,0,1)) ?_ (λ_ _ h=>h) ⟨rfl,rfl⟩) ?_)
 ·rintro x c st' _ _ ⟨rfl,rfl⟩;dsimp only;rw[if_pos (by decide)];exact wpS_pure ⟨rfl,rfl⟩
 rintro c st' ⟨rfl,rfl⟩;dsimp only;refine wpS_bind (wpS_mono (wpS_forRange (I:=λx c st''=>st''=st'∧c=(none,1,1)) (Q:=λc st''=>st''=st'∧c=(none,1,1)) ?_ (λ_ _ h=>h) ⟨rfl,rfl⟩) ?_)
 ·rintro x c st'' _ _ ⟨rfl,rfl⟩;dsimp only;rw[if_pos (by decide)];exact wpS_pure ⟨rfl,rfl⟩
 rintro c st'' ⟨rfl,rfl⟩;exact wpS_pure q
theorem Z7w {x e:Keyed}{Q:Array Keyed→SortSt→Prop}(q:Q #[e,x] st):wpS (model prog w) A E s (Z61 #[x] #[e]) Q st:=by
 refine wpS_bind (wpS_lift (wpAny_rule ⟨rfl,?_⟩));refine wpS_bind (XM (x:=e) rfl ?_);dsimp only;rw[if_pos (show (1 == (#[e]:Array Keyed).size)=true from rfl)];have e1:(#[e]:Array Keyed)++(#[x]:Array Keyed).extract++(#[e]:Array Keyed).extract 1 = #[e,x]:=by simp
 refine wpS_pure ?_;rw[e1];exact q
theorem Z7u {xs:List Keyed}{e:Keyed}{Q:Array Keyed→SortSt→Prop}(h2:2≤xs.length)(q:Q (e::xs).toArray st):wpS (model prog w) A E s (Z5s xs.toArray #[e]) Q st:=by
 refine wpS_bind (wpS_lift (wpAny_rule ⟨rfl,?_⟩));have b1:xs.length - 1 < xs.length:=by omega
 refine wpS_bind (XM (x:=xs[xs.length - 1]) (by simp) ?_);dsimp only;rw[if_neg (show ¬ (xs.toArray.size - 1 == 0)=true by simp;omega),if_pos (show ((#[e]:Array Keyed).size == 1)=true from rfl)];refine wpS_pure ?_;have e1:((#[e]:Array Keyed).extract 0 (#[e]:Array Keyed).size++xs.toArray.extract 0 (xs.toArray.size - 1)++(#[xs[xs.length - 1]]:Array Keyed).reverse)=(e::xs).toArray:=by
  apply Array.toList_inj.mp;simp;have ne:xs≠[]:=by intro z;rw[z] at h2;simp at h2
  have:=List.dropLast_concat_getLast ne;rw[List.getLast_eq_getElem] at this;exact this
 rw[e1];exact q
theorem Z3t:∀ (zs old pre:List Keyed) (c i:Nat),old.length=zs.length→pre.length=c + i→List.foldl (λ(a:Array Keyed) x=>a.setIfInBounds (c + x.snd) x.fst) (pre++old).toArray (zs.zipIdx i)=(pre++zs).toArray
 | [],[],pre,c,i,_,_=>by simp
 | z::zs,o::old,pre,c,i,h1,h2=>by
   rw[List.zipIdx_cons,List.foldl_cons];have e:(pre++o::old).toArray.setIfInBounds (c + i) z=((pre++[z])++old).toArray:=by
    apply Array.toList_inj.mp;rw[←h2];simp
   dsimp only;rw[e,Z3t zs old (pre++[z]) c (i + 1) (by simpa using h1) (by simp[h2];omega)];simp
theorem Z72 {us ts:List Keyed}{e:Keyed}{pw pw2 g:Nat}{Q:Bool→SortSt→Prop}(hc:XH prog w A s κ S L)(hS:∀ x∈us++ts++[e],S x)(ne:ts≠[])
 (lo:∀ x∈us,L e x=false) (hi:∀ x∈ts,L e x=true) (q:Q true (SortSt.mk' κ (us++e::ts).toArray #[(0,us.length + ts.length + 1,pw)] g none)) :
 wpS (model prog w) A E s (mergeAt' 0) Q (SortSt.mk' κ (us++ts++[e]).toArray #[(0,us.length + ts.length,pw),(us.length + ts.length,1,pw2)] g none):=by
 refine wpS_bind (wpS_get ?_);dsimp only;have tl:0 < ts.length:=List.length_pos_iff.mpr ne;have ge:(us++ts++[e]).toArray[us.length + ts.length]? = some e:=by simp
 have hl:ts.getLast ne∈ts:=List.getLast_mem ne;have gl:(us++ts++[e]).toArray[us.length + ts.length - 1]? = some (ts.getLast ne):=by
  have e1:us.length + ts.length - 1=us.length + (ts.length - 1):=by omega
  rw[List.getElem?_toArray,List.append_assoc,e1,List.getElem?_append_right (by omega),Nat.add_sub_cancel_left,List.getElem?_append_left (by omega),List.getLast_eq_getElem];exact List.getElem?_eq_getElem _
 refine wpS_bind (m:=set _) (show wpS _ _ _ _ (set _) _ _ from ?_);unfold wpS;refine wpAny_pure ⟨rfl,?_⟩;refine wpS_bind (XM ge ?_);refine wpS_bind (Z6n (u:=us.length) (n:=us.length + ts.length) hc rfl (hS e (by simp)) (λx hx=>hS x (by simpa using hx)) (by simp) (by omega) (λi x hi' g'=>?_) (λi x hi' hn g'=>?_) ?_)
 ·rw[List.getElem?_toArray,List.append_assoc,List.getElem?_append_left hi'] at g';exact lo x (List.mem_of_getElem? g')
 ·rw[List.getElem?_toArray,List.append_assoc,List.getElem?_append_right hi',List.getElem?_append_left (by omega)] at g';exact hi x (List.mem_of_getElem? g')
 dsimp only;rw[if_neg (by simp;omega)];have gl2:(us++ts++[e]).toArray[0 + us.length + (us.length + ts.length - us.length) - 1]? = some (ts.getLast ne):=by
  rw[show 0 + us.length + (us.length + ts.length - us.length) - 1=us.length + ts.length - 1 by omega];exact gl
 refine wpS_bind (XM gl2 ?_);refine wpS_bind (Z5N hc rfl (hS _ (by simp[hl])) (hS e (by simp)) ge (hi _ hl) ?_);dsimp only;rw[if_neg (by decide)];have ex:(us++ts++[e]).toArray.extract (0 + us.length) (us.length + ts.length)=ts.toArray:=by
  apply Array.toList_inj.mp;simp
 have ey:(us++ts++[e]).toArray.extract (us.length + ts.length) (us.length + ts.length + 1) = #[e]:=by
  apply Array.toList_inj.mp;simp
 rw[ex,ey];have ep:(#[(0,us.length + ts.length,pw),(us.length + ts.length,1,pw2)].setIfInBounds 0 (0,us.length + ts.length + 1,pw)).eraseIdxIfInBounds (0 + 1) = #[(0,us.length + ts.length + 1,pw)]:=by
  apply Array.toList_inj.mp;simp
 rw[ep];have fin:∀ M:Array Keyed,M=(e::ts).toArray→wpS (model prog w) A E s (do
  modify λs=>SortSt.mk' (kindOf s) (List.foldl (λa x=>a.setIfInBounds (0 + us.length + x.snd) x.fst) (arrOf s) M.toList.zipIdx) (pendingOf s) (gallopOf s) (failedOf s)
  let r←get
  pure (failedOf r).isNone) Q (SortSt.mk' κ (us++ts++[e]).toArray #[(0,us.length + ts.length + 1,pw)] g none):=λM eM=>by
  refine wpS_bind (wpS_modify (wpS_bind (wpS_get (wpS_pure ?_))));rw[eM];have:=Z3t (e::ts) (ts++[e]) us (0 + us.length) 0 (by simp) (by simp);rw[←List.append_assoc] at this;show Q true (SortSt.mk' κ (List.foldl (λa x=>a.setIfInBounds (0 + us.length + x.snd) x.fst) (us++ts++[e]).toArray ((e::ts).zipIdx 0)) #[(0,us.length + ts.length + 1,pw)] g none);rw[this];exact q
 by_cases one:us.length + ts.length - us.length≤1
 ·rw[if_pos one];obtain⟨x,rfl⟩:∃ x,ts=[x]:=by
   match ts,tl,one with
   | [x],_,_=>exact⟨x,rfl⟩
   | _::_::_,_,h=>simp at h
  exact wpS_bind (Z7w (fin _ rfl))
 ·rw[if_neg one];exact wpS_bind (Z7u (by omega) (fin _ rfl))
theorem Z6f {b:Nat}{Q:Option Nat→SortSt→Prop}(q:Q (some 1) st):wpS (model prog w) A E s (countRun' b 1) Q st:=by
 rw[countRun'_eq];refine wpS_bind (wpS_mono (wpS_forRange (I:=λ_ c st'=>st'=st∧c=(none,1)) (Q:=λc st'=>st'=st∧c=(none,1)) (λi c st' h1 h2 _=>by omega) (λ_ _ h=>h) ⟨rfl,rfl⟩) ?_);rintro c st' ⟨rfl,rfl⟩;dsimp only;rw[if_pos (by decide)];exact wpS_pure q
theorem Z6r {b:Nat}{Q:Bool→SortSt→Prop}(q:Q true st):wpS (model prog w) A E s (binarySort' b 1 1) Q st:=by
 rw[binarySort'_eq];refine wpS_bind (wpS_mono (wpS_forRange (I:=λ_ c st'=>st'=st∧c=(none,())) (Q:=λc st'=>st'=st∧c=(none,())) (λi c st' h1 h2 _=>by omega) (λ_ _ h=>h) ⟨rfl,rfl⟩) ?_);rintro c st' ⟨rfl,rfl⟩;exact wpS_pure q
theorem Z1G {n:Nat}(h1:64≤n)(h2:n < 128):minRun' n n 0=n / 2 + max 0 (n % 2):=by
 obtain⟨f,hf⟩:∃ f,n=f + 2:=⟨n - 2,by omega⟩;have e1:minRun' (f + 2) n 0=minRun' (f + 1) (n / 2) (max 0 (n % 2)):=by rw[minRun'_succ,if_neg (by omega)]
 have e2:minRun' (f + 1) (n / 2) (max 0 (n % 2))=n / 2 + max 0 (n % 2):=by rw[minRun'_succ,if_pos (by omega)]
 rw[←hf] at e1;rw[e1,e2]
theorem Z2W {n r:Nat}{Q:Option Nat→SortSt→Prop}(hc:XH prog w A s κ S L)(hk:kindOf st=κ)(hS:∀ x∈arrOf st,S x)(hz:n≤(arrOf st).size)(r1:2≤r)(rn:r≤n)
 (up:∀ i x y,1≤i→i < r→(arrOf st)[i - 1]? = some x→(arrOf st)[i]? = some y→L y x=false)
 (stop:r=n∨((∀ x y,(arrOf st)[r - 1]? = some x→(arrOf st)[r]? = some y→L y x=true)∧∀ x y,(arrOf st)[0]? = some x→(arrOf st)[r - 1]? = some y→L x y=true)) (q:Q (some r) st):wpS (model prog w) A E s (countRun' 0 n) Q st:=by
 rw[countRun0_eq];refine wpS_bind (Z85 hc hk hS hz (by omega) rn up (stop.imp id And.left) ?_);dsimp only
 by_cases e:r=n
 ·rw[if_pos (by simpa using e)];exact wpS_pure q
 ·rw[if_neg (by simpa using e),if_pos (by omega)];have b1:0 < (arrOf st).size:=by omega
  have b2:r - 1 < (arrOf st).size:=by omega
  have g1:=Array.getElem?_eq_getElem b1;have g2:=Array.getElem?_eq_getElem b2;refine wpS_bind (Z2A hc hk g1 g2 (hS _ (Array.getElem_mem b1)) (hS _ (Array.getElem_mem b2)) ?_);rw[(stop.resolve_left e).2 _ _ g1 g2];dsimp only;rw[if_pos rfl];exact wpS_pure q
theorem Z5W {us:List Keyed}{e:Keyed}{Q:Unit→SortSt→Prop}(hc:XH prog w A s κ S L)(hS:∀ x∈us++[e],S x)(h63:63≤us.length)(h127:us.length < 127)
 (up:∀ i x y,1≤i→i < us.length + 1→(us++[e])[i - 1]? = some x→(us++[e])[i]? = some y→L y x=false) (q:∀ st',arrOf st'=(us++[e]).toArray→failedOf st'=none→Q () st') :
 wpS (model prog w) A E s sortRuns' Q (SortSt.mk' κ (us++[e]).toArray #[] 7 none):=by
 rw[sortRuns'_eq];refine wpS_bind (wpS_get ?_);have hn:(arrOf (SortSt.mk' κ (us++[e]).toArray #[] 7 none)).size=us.length + 1:=by show (us++[e]).toArray.size=_;simp
 dsimp only;rw[hn,Z1G (by omega) (by omega)];refine wpS_bind (wpS_mono (wpS_forRange (I:=λx c st'=>(x=0∧c=(none,0)∧st'=SortSt.mk' κ (us++[e]).toArray #[] 7 none)∨(1≤x∧c=(none,us.length + 1)∧st'=SortSt.mk' κ (us++[e]).toArray #[(0,us.length + 1,0)] 7 none))
  (Q:=λc st'=>c=(none,us.length + 1)∧st'=SortSt.mk' κ (us++[e]).toArray #[(0,us.length + 1,0)] 7 none) ?step ?fin (.inl ⟨rfl,rfl,rfl⟩)) ?post)
 case fin=>
  rintro c st' (⟨hx,_,_⟩|⟨_,hc',hD⟩)
  ·omega
  ·exact⟨hc',hD⟩
 case step=>
  rintro x c st' _ hx (⟨rfl,rfl,rfl⟩|⟨hx1,rfl,rfl⟩)
  ·dsimp only;rw[if_neg (by omega)];refine wpS_bind (Z2W (r:=us.length + 1) hc rfl (λx hx'=>hS x (List.mem_toArray.mp hx')) (by show us.length + 1 - 0≤(us++[e]).toArray.size;simp) (by omega) (by omega) (λi x y h1 h2 g1 g2=>up i x y h1 h2 (List.getElem?_toArray.symm.trans g1) (List.getElem?_toArray.symm.trans g2)) (.inl (by omega)) ?_);dsimp only;rw[if_neg (by omega)];refine wpS_bind (wpS_get ?_);exact wpS_bind (wpS_modify (wpS_pure (.inr ⟨by omega,by rw[Nat.zero_add],rfl⟩)))
  ·dsimp only;rw[if_pos (Nat.le_refl _)];exact wpS_pure ⟨rfl,rfl⟩
 case post=>
  rintro c st' ⟨rfl,rfl⟩;dsimp only;refine wpS_bind (wpS_mono (wpS_forRange (I:=λ_ c st''=>st''=SortSt.mk' κ (us++[e]).toArray #[(0,us.length + 1,0)] 7 none∧c=(none,())) (Q:=λc st''=>st''=SortSt.mk' κ (us++[e]).toArray #[(0,us.length + 1,0)] 7 none∧c=(none,())) ?_ (λ_ _ h=>h) ⟨rfl,rfl⟩) ?_)
  ·rintro x c st'' _ _ ⟨rfl,rfl⟩;refine wpS_bind (wpS_get ?_);rw[if_pos (show (#[(0,us.length + 1,0)]:Array (Nat×Nat×Nat)).size≤1 from Nat.le_refl 1)];exact wpS_pure ⟨rfl,rfl⟩
  ·rintro c st'' ⟨rfl,rfl⟩;exact wpS_pure (q _ rfl rfl)
theorem Z4u {us ts:List Keyed}{e:Keyed}{Q:Unit→SortSt→Prop}(hc:XH prog w A s κ S L)(hS:∀ x∈us++ts++[e],S x)(ne:ts≠[])(h63:63≤us.length + ts.length)(h127:us.length + ts.length < 127)
 (up:∀ i x y,1≤i→i < us.length + ts.length→(us++ts)[i - 1]? = some x→(us++ts)[i]? = some y→L y x=false) (rose:∀ x y,(us++ts)[0]? = some x→(us++ts)[us.length + ts.length - 1]? = some y→L x y=true)
 (lo:∀ x∈us,L e x=false) (hi:∀ x∈ts,L e x=true) (q:∀ st',arrOf st'=(us++e::ts).toArray→failedOf st'=none→Q () st') :
 wpS (model prog w) A E s sortRuns' Q (SortSt.mk' κ (us++ts++[e]).toArray #[] 7 none):=by
 rw[sortRuns'_eq];refine wpS_bind (wpS_get ?_);have hn:(arrOf (SortSt.mk' κ (us++ts++[e]).toArray #[] 7 none)).size=us.length + ts.length + 1:=by show (us++ts++[e]).toArray.size=_;simp;omega
 have tl:0 < ts.length:=List.length_pos_iff.mpr ne;have gin:∀ i,i < us.length + ts.length→(us++ts++[e])[i]? = (us++ts)[i]?:=λi h=>List.getElem?_append_left (by simpa using h);have gl:∀ x,(us++ts)[us.length + ts.length - 1]? = some x→x∈ts:=λx g=>by
  rw[List.getElem?_append_right (by omega)] at g;exact List.mem_of_getElem? g
 have ge:∀ x,(us++ts++[e])[us.length + ts.length]? = some x→x=e:=λx g=>by
  rw[List.getElem?_append_right (by simp)] at g
  simpa using g.symm
 dsimp only;rw[hn,Z1G (by omega) (by omega)];refine wpS_bind (wpS_mono (wpS_forRange (I:=λx c st'=>(x=0∧c=(none,0)∧st'=SortSt.mk' κ (us++ts++[e]).toArray #[] 7 none)∨(x=1∧c=(none,us.length + ts.length)∧st'=SortSt.mk' κ (us++ts++[e]).toArray #[(0,us.length + ts.length,0)] 7 none)
  ∨(2≤x∧c=(none,us.length + ts.length + 1)∧∃ pw,st'=SortSt.mk' κ (us++ts++[e]).toArray #[(0,us.length + ts.length,pw),(us.length + ts.length,1,0)] 7 none))
  (Q:=λc st'=>c=(none,us.length + ts.length + 1)∧∃ pw,st'=SortSt.mk' κ (us++ts++[e]).toArray #[(0,us.length + ts.length,pw),(us.length + ts.length,1,0)] 7 none) ?step ?fin (.inl ⟨rfl,rfl,rfl⟩)) ?post)
 case fin=>
  rintro c st' (⟨hx,_,_⟩|⟨hx,_,_⟩|⟨_,hc',hD⟩)
  ·omega
  ·omega
  ·exact⟨hc',hD⟩
 case step=>
  rintro x c st' _ hx (⟨rfl,rfl,rfl⟩|⟨rfl,rfl,rfl⟩|⟨hx1,rfl,pw,rfl⟩)
  ·dsimp only;rw[if_neg (by omega)];refine wpS_bind (Z2W (r:=us.length + ts.length) hc rfl (λx hx'=>hS x (List.mem_toArray.mp hx')) (by show us.length + ts.length + 1 - 0≤(us++ts++[e]).toArray.size;simp;omega) (by omega) (by omega) (λi x y h1 h2 g1 g2=>?_) (.inr ⟨λx y g1 g2=>?_,λx y g1 g2=>?_⟩) ?_)
   ·have g1:(us++ts++[e]).toArray[i - 1]? = some x:=g1;have g2:(us++ts++[e]).toArray[i]? = some y:=g2;rw[List.getElem?_toArray,gin _ (by omega)] at g1 g2;exact up i x y h1 h2 g1 g2
   ·have g1:(us++ts++[e]).toArray[us.length + ts.length - 1]? = some x:=g1;have g2:(us++ts++[e]).toArray[us.length + ts.length]? = some y:=g2;rw[List.getElem?_toArray] at g1 g2;rw[gin _ (by omega)] at g1;rw[ge _ g2];exact hi _ (gl _ g1)
   ·have g1:(us++ts++[e]).toArray[0]? = some x:=g1;have g2:(us++ts++[e]).toArray[us.length + ts.length - 1]? = some y:=g2;rw[List.getElem?_toArray,gin _ (by omega)] at g1 g2;exact rose x y g1 g2
   dsimp only;rw[if_neg (by omega)];refine wpS_bind (wpS_get ?_);exact wpS_bind (wpS_modify (wpS_pure (.inr (.inl ⟨rfl,by rw[Nat.zero_add],rfl⟩))))
  ·dsimp only;rw[if_neg (by omega),show us.length + ts.length + 1 - (us.length + ts.length)=1 by omega];refine wpS_bind (Z6f ?_);dsimp only;rw[if_pos (by omega)];refine wpS_bind (wpS_lift (wpAny_rule ⟨rfl,?_⟩));rw[show min 1 ((us.length + ts.length + 1) / 2 + max 0 ((us.length + ts.length + 1) % 2))=1 by omega];refine wpS_bind (Z6r ?_);simp only[Bool.not_true,Bool.false_eq_true,if_false];refine wpS_bind (wpS_get ?_);have bk:(pendingOf (SortSt.mk' κ (us++ts++[e]).toArray #[(0,us.length + ts.length,0)] 7 none)).back? = some (0,us.length + ts.length,0):=rfl;rw[bk];dsimp only;refine wpS_bind (wpS_mono (wpS_forRange (I:=λ_ c st''=>st''=SortSt.mk' κ (us++ts++[e]).toArray #[(0,us.length + ts.length,0)] 7 none∧c=(none,())) (Q:=λc st''=>st''=SortSt.mk' κ (us++ts++[e]).toArray #[(0,us.length + ts.length,0)] 7 none∧c=(none,())) ?_ (λ_ _ h=>h) ⟨rfl,rfl⟩) ?_)
   ·rintro x c st'' _ _ ⟨rfl,rfl⟩;refine wpS_bind (wpS_get ?_);exact wpS_pure ⟨rfl,rfl⟩
   rintro c st'' ⟨rfl,rfl⟩;dsimp only;refine wpS_bind (wpS_modify (wpS_bind (wpS_modify (wpS_pure (.inr (.inr ⟨by omega,rfl,_,rfl⟩))))))
  ·dsimp only;rw[if_pos (Nat.le_refl _)];exact wpS_pure ⟨rfl,pw,rfl⟩
 case post=>
  rintro c st' ⟨rfl,pw,rfl⟩;dsimp only;refine wpS_bind (wpS_mono (wpS_forRange (I:=λx c st''=>c=(none,())∧((x=0∧st''=SortSt.mk' κ (us++ts++[e]).toArray #[(0,us.length + ts.length,pw),(us.length + ts.length,1,0)] 7 none)∨(1≤x∧st''=SortSt.mk' κ (us++e::ts).toArray #[(0,us.length + ts.length + 1,pw)] 7 none)))
   (Q:=λc st''=>c=(none,())∧st''=SortSt.mk' κ (us++e::ts).toArray #[(0,us.length + ts.length + 1,pw)] 7 none) ?_ ?_ ⟨rfl,.inl ⟨rfl,rfl⟩⟩) ?_)
  ·rintro x c st'' _ _ ⟨rfl,⟨rfl,rfl⟩|⟨h1,rfl⟩⟩
   ·refine wpS_bind (wpS_get ?_);rw[if_neg (show ¬ (#[(0,us.length + ts.length,pw),(us.length + ts.length,1,0)]:Array (Nat×Nat×Nat)).size≤1 by simp)];refine wpS_bind (Z72 hc hS ne lo hi ?_);exact wpS_pure ⟨rfl,.inr ⟨by omega,rfl⟩⟩
   ·refine wpS_bind (wpS_get ?_);rw[if_pos (show (#[(0,us.length + ts.length + 1,pw)]:Array (Nat×Nat×Nat)).size≤1 from Nat.le_refl 1)];exact wpS_pure ⟨rfl,rfl⟩
  ·rintro c st'' ⟨rfl,⟨h,_⟩|⟨_,rfl⟩⟩
   ·omega
   ·exact⟨rfl,rfl⟩
  ·rintro c st'' ⟨rfl,rfl⟩;exact wpS_pure (q _ rfl rfl)
end
section
variable {prog:Program}{w:World}{A:Around}{EE:Value→Shared→Prop}{s:Shared}{hb:Heap}{L a kS:Addr}{m:Str→Option Value}{ks vs out:List Value}{P:PySem.Fin→Shared→Prop}
noncomputable def Z3R (prog:Program)(w:World)(A:Around)(EE:Value→Shared→Prop)(s:Shared)(κ:SortKind)(ks vs out:List Value):Prop:=
 ∀ Q:Unit→SortSt→Prop,(∀ st',(arrOf st').map (·.2)=out.toArray→failedOf st'=none→Q () st')→wpS (model prog w) A EE s sortRuns' Q (SortSt.mk' κ (ks.toArray.zip vs.toArray) #[] 7 none)
theorem Z6j {st:SortSt}{e e1:Nat}(hout:(arrOf st).map (·.2)=out.toArray)(ho:out.length≤1000)(hk:ks.length≤1000)(hf:failedOf st=none)(h:KatFin hb L m kS a ks e e1 out (λs4=>P (.done (.ret .none)) s4) s) :
 wpAny (model prog w) A (ksk_tail a false e1 (.ref kS) st) P EE s:=by
 obtain⟨nw,g,F1,N1,U1,k1⟩:=h;obtain⟨pr,po,q0,hg,x1,x2⟩:=U1.split;rw[q0] at N1;have at1:=N1 (kS,seqObj "list" ks.toArray e) (List.mem_append_right _ (.head _));have sb1:=Heap.SameBut.update s.heap kS (Obj.mapSeq λ_=>(#[]:Array Value));obtain⟨c1,hc1⟩:∃ c1,(s.heap.update kS (Obj.mapSeq λ_=>(#[]:Array Value))).get? kS=some (seqObj "list" #[] c1):=⟨_,get?_update_seq at1.1 λ_=>#[]⟩;obtain⟨nw2,g2,F2,N2,U2,k2⟩:=k1 _ c1 (kas_fr F1 sb1 at1.2.1 at1.2.2) (by rw[hg];exact news_set N1 x1 x2 sb1 hc1);obtain⟨pr2,po2,q2,hg2,y1,y2⟩:=U2.split;rw[q2] at N2;have at2:=N2 (a,seqObj "list" #[] e1) (List.mem_append_right _ (.head _));have sb2:=Heap.SameBut.update (s.heap.update kS (Obj.mapSeq λ_=>(#[]:Array Value))) a (Obj.mapSeq λ_=>out.toArray);obtain⟨c2,hc2⟩:∃ c2,((s.heap.update kS (Obj.mapSeq λ_=>(#[]:Array Value))).update a (Obj.mapSeq λ_=>out.toArray)).get? a=some (seqObj "list" out.toArray c2):=⟨_,get?_update_seq at2.1 λ_=>out.toArray⟩;unfold ksk_tail;dsimp only;rw[hout,if_neg (by decide)];refine wpAny_bind (listUpdate_at at1.1 rfl ?_ (by rw[List.size_toArray,sizeLine_eq];omega) (Nat.zero_le _));refine wpAny_bind (wpAny_letGo ?_);refine wpAny_bind (seqEpoch_at at2.1 rfl ?_);refine wpAny_bind (listUpdate_at at2.1 rfl ?_ (Nat.zero_le _) (by rw[List.size_toArray,sizeLine_eq];omega));rw[hf];simp only[bne_self_eq_false,Bool.false_eq_true,if_false];exact wpAny_pure (k2 _ c2 (kas_fr F2 sb2 at2.2.1 at2.2.2) (by rw[hg2];exact news_set N2 y1 y2 sb2 hc2))
theorem Z7e {e e1:Nat}(hl:ks.length=vs.length)(h2:2≤vs.length)(hv:vs.length≤1000)
 (h:wpAny (model prog w) A (keyKind' ks.toArray) (λκ s2=>∃ out,out.length=vs.length∧Z3R prog w A EE s2 κ ks vs out∧KatFin hb L m kS a ks e e1 out (λs4=>P (.done (.ret .none)) s4) s2) (λ_ _=>False) s) :
 wpAny (model prog w) A (ksk_end a false vs.toArray e1 (.ref kS) ks.toArray) P EE s:=by
 have n2:¬ vs.toArray.size < 2:=by rw[List.size_toArray];omega
 unfold ksk_end;dsimp only;rw[if_neg (by decide),if_neg n2,if_neg n2];refine wpAny_bind (wpAny_mono h (λκ s2 hk=>?_) λ_ _ z=>z.elim);obtain⟨out,lo,run,fin⟩:=hk;rw[if_neg (by decide)];refine wpAny_bind (wpAny_mono (run (λ_ st'=>(arrOf st').map (·.2)=out.toArray∧failedOf st'=none) λst' a1 a2=>⟨a1,a2⟩) ?_ λ_ _ z=>z);rintro⟨⟨⟩,st'⟩ s3 ⟨rfl,ho,hf⟩;exact Z6j ho (by omega) (by omega) hf fin
theorem Z2L {f:Value}{Fin:List Value→Nat→Shared→Prop}{n:Nat}{body:Value→PUnit→Sem (ForInStep PUnit)}(hn:n≤1000)
 (st1:∀ x ks e (s:Shared) (C:Value→Nat→Shared→Prop),List.length ks < 1000→wpAny (model prog w) A (call f [x]) (KatBack hb L m kS ks e C) (λ_ _=>False) s→
   wpAny (model prog w) A (body x ⟨⟩) (λr s'=>r=.yield ⟨⟩∧∃ k c,s'.heap.get? kS=some (seqObj "list" (ks++[k]).toArray c)∧C k c s') EE s):∀ (r ks:List Value) (e:Nat) (s:Shared),ks.length + r.length=n→
   s.heap.get? kS=some (seqObj "list" ks.toArray e)→KatKeys prog w A hb L m kS f Fin r ks e s→
   wpAny (model prog w) A (forIn r PUnit.unit body) (λ_ s'=>∃ ks e,s'.heap.get? kS=some (seqObj "list" ks.toArray e)∧ks.length=n∧Fin ks e s') EE s
 | [],ks,e,s,hl,hk,h=>by
   rw[List.forIn_nil];exact wpAny_pure ⟨ks,e,hk,by simpa using hl,h⟩
 | x::r,ks,e,s,hl,hk,h=>by
   rw[List.forIn_cons];rw[List.length_cons] at hl;refine wpAny_bind (wpAny_mono (st1 x ks e s (λk c s2=>KatKeys prog w A hb L m kS f Fin r (ks++[k]) c s2) (by omega) h) (λq s2 hq=>?_) λ_ _ z=>z);obtain⟨rfl,k,c,hk2,h2⟩:=hq;exact Z2L hn st1 r (ks++[k]) c s2 (by rw[List.length_append,List.length_singleton];omega) hk2 h2
theorem Z4Q {f:Value}{n:Nat}{news:List (Addr×Obj)}(F:Fr hb L s.heap m)(N:News hb L s.heap news)(ho:s.heap.get? a=some (seqObj "list" vs.toArray n))(haL:a≠L)(ha0:hb.get? a=none)(hna:∀ p∈news,p.1≠a)(h2:2≤vs.length)(hv:vs.length≤1000)
 (k:∀ kS e1 g,Fr hb L g m→News hb L g ((kS,seqObj "list" #[] 0)::(a,seqObj "list" #[] e1)::news)→a < kS→(∀ q∈news,q.1 < kS)→
   KatKeys prog w A hb L m kS f (λks e s1=>wpAny (model prog w) A (keyKind' ks.toArray) (λκ s2=>∃ out,out.length=vs.length∧Z3R prog w A EE s2 κ ks vs out∧KatFin hb L m kS a ks e e1 out (λs4=>P (.done (.ret .none)) s4) s2) (λ_ _=>False) s1) vs [] 0 { s with heap:=g }) :
 wpAny (model prog w) A (ksk_tree a f false) P EE s:=by
 have lta:a < s.heap.objs.size:=Heap.lt_size ho;have sb:=Heap.SameBut.update s.heap a (Obj.mapSeq λ_=>(#[]:Array Value));obtain⟨e1,o1⟩:∃ e1,(s.heap.update a (Obj.mapSeq λ_=>(#[]:Array Value))).get? a=some (seqObj "list" #[] e1):=⟨_,get?_update_seq ho λ_=>#[]⟩;have G1:=kas_fr F sb haL ha0;have M1:=kas_news N sb hna;unfold ksk_tree;refine wpAny_bind (listItems_at ho rfl ?_);refine wpAny_bind (listUpdate_at ho rfl ?_ (by rw[List.size_toArray,sizeLine_eq];omega) (Nat.zero_le _));refine wpAny_bind (seqEpoch_at o1 rfl ?_);refine wpAny_bind (wpAny_newTuple ?_ (by show vs.length≤_;rw[sizeLine_eq];omega));refine wpAny_bind (wpAny_newList ?_ (Nat.zero_le _));refine wpAny_holding ?_;have sz:((s.heap.update a (Obj.mapSeq λ_=>(#[]:Array Value))).push (seqObj "tuple" vs.toArray 0)).objs.size=s.heap.objs.size + 1:=by rw[size_push',Heap.size_update]
 have ltL:=(G1.push (seqObj "tuple" vs.toArray 0)).ns.lt;have at0:(((s.heap.update a (Obj.mapSeq λ_=>(#[]:Array Value))).push (seqObj "tuple" vs.toArray 0)).push (seqObj "list" #[] 0)).get? ((s.heap.update a (Obj.mapSeq λ_=>(#[]:Array Value))).push (seqObj "tuple" vs.toArray 0)).objs.size=some (seqObj "list" #[] 0):=Heap.get?_push_size _ rfl;have K:=k ((s.heap.update a (Obj.mapSeq λ_=>(#[]:Array Value))).push (seqObj "tuple" vs.toArray 0)).objs.size e1 _ ((G1.push (seqObj "tuple" vs.toArray 0)).push (seqObj "list" #[] 0)) (λp hp=>?_) (by rw[sz];exact Nat.lt_succ_of_lt lta) λq hq=>by rw[sz];exact Nat.lt_succ_of_lt (Heap.lt_size (N q hq).1)
 rotate_left
 ·rcases List.mem_cons.mp hp with rfl|hp
  ·exact⟨at0,Nat.ne_of_gt ltL,Heap.get?_none_of_le (Nat.le_trans F.above (Nat.le_of_lt ltL))⟩
  ·rcases List.mem_cons.mp hp with rfl|hp
   ·exact⟨Heap.get?_push_of_some _ (Heap.get?_push_of_some _ o1),haL,ha0⟩
   ·exact⟨Heap.get?_push_of_some _ (Heap.get?_push_of_some _ (M1 p hp).1),(M1 p hp).2⟩
 show wpAny (model prog w) A (ksk_rest a f false vs.toArray e1 _) P EE _;unfold ksk_rest;refine wpAny_bind (wpAny_rule ?_);show wpAny (model prog w) A (bind (forIn vs.toArray PUnit.unit _) _) P EE _;rw[List.forIn_toArray];refine wpAny_bind (wpAny_mono (Z2L hv (λy ks e s2 C hz hx=>?_) vs [] 0 _ (by simp) at0 K) (λ_ s2 hd=>?_) λ_ _ z=>z)
 ·refine wpAny_bind (wpAny_attempt (wpAny_mono hx (λv s3 hk=>?_) λ_ _ hF=>hF.elim));obtain⟨nw,g,F',N',U,c⟩:=hk;obtain⟨pre,post,e0,hg,x1,x2⟩:=U.split;rw[e0] at N';have nk:=N' _ (List.mem_append_right _ (.head _));have s1:=Heap.SameBut.update s3.heap ((s.heap.update a (Obj.mapSeq λ_=>(#[]:Array Value))).push (seqObj "tuple" vs.toArray 0)).objs.size (Obj.mapSeq (·.push v));have ea:(List.toArray ks).push v=List.toArray (ks++[v]):=by simp
  obtain⟨c2,hc2⟩:∃ c2,(s3.heap.update ((s.heap.update a (Obj.mapSeq λ_=>(#[]:Array Value))).push (seqObj "tuple" vs.toArray 0)).objs.size (Obj.mapSeq (·.push v))).get? ((s.heap.update a (Obj.mapSeq λ_=>(#[]:Array Value))).push (seqObj "tuple" vs.toArray 0)).objs.size=some (seqObj "list" (List.toArray (ks++[v])) c2):=⟨_,by rw[←ea];exact get?_update_seq nk.1 (·.push v)⟩;dsimp only;refine wpAny_bind (listUpdate_at nk.1 rfl ?_ (by rw[List.size_toArray,sizeLine_eq];omega) (Nat.le_trans (Nat.le_of_eq (Array.size_push ..)) (by rw[List.size_toArray,sizeLine_eq];omega)));exact wpAny_pure ⟨rfl,v,c2,hc2,c _ c2 (kas_fr F' s1 nk.2.1 nk.2.2) (by rw[hg];exact news_set N' x1 x2 s1 hc2)⟩
 ·obtain⟨ks,e,hk',hl,fin⟩:=hd;dsimp only;refine wpAny_bind (listItems_at hk' rfl ?_);exact Z7e hl h2 hv fin
theorem Z4f {l:Addr}{f:Addr}{news:List (Addr×Obj)}{Q:Value→Shared→Prop}(F:Fr hb L s.heap m)(N:News hb L s.heap news)(hl:s.heap.IsList l vs.toArray)(h2:2≤vs.length)(hv:vs.length≤1000)
 (k:∀ D kS e1 g,Fr hb L g m→News hb L g ((kS,seqObj "list" #[] 0)::(D,seqObj "list" #[] e1)::news)→D < kS→(∀ q∈news,q.1 < D)→
   KatKeys prog w A.in1.in1 hb L m kS (.ref f) (λks e s1=>wpAny (model prog w) A.in1.in1 (keyKind' ks.toArray) (λκ s2=>∃ out,out.length=vs.length∧(∀ EE,Z3R prog w A.in1.in1 EE s2 κ ks vs out)∧KatFin hb L m kS D ks e e1 out (λs4=>Q (.ref D) s4) s2) (λ_ _=>False) s1) vs [] 0 { s with heap:=g }) :
 wpAny (model prog w) A (call (.builtin "sorted") [.ref l] [(Str.ofString "key",.ref f)]) Q EE s:=by
 refine call_function_entry_kw kind_sorted plain_sorted entry_sorted (ksk_s1 _ _) ?_;unfold Builtin.«sorted»;refine wpAny_bind (m:=checkCount "sorted" 1 1 _) (wpAny_pure ?_);refine wpAny_bind (collect_list hl ?_ (by rw[sizeLine_eq];omega));refine wpAny_bind (wpAny_newList ?_ (by rw[sizeLine_eq];omega));have sz:((s.heap.push (seqObj "list" #[] 0)).update s.heap.objs.size (Obj.mapSeq (·++vs.toArray))).objs.size=s.heap.objs.size + 1:=by
  rw[Heap.size_update,size_push']
 have at1:(((s.heap.push (seqObj "list" #[] 0)).update s.heap.objs.size (Obj.mapSeq (·++vs.toArray))).push (seqObj "list" vs.toArray 0)).get? (s.heap.objs.size + 1)=some (seqObj "list" vs.toArray 0):=by
  rw[←sz];exact Heap.get?_push_size _ rfl
 have kp:∀ b o,s.heap.get? b=some o→(((s.heap.push (seqObj "list" #[] 0)).update s.heap.objs.size (Obj.mapSeq (·++vs.toArray))).push (seqObj "list" vs.toArray 0)).get? b=some o:=λb o q=>by
  have lt:b < s.heap.objs.size:=Heap.lt_size q;rw[Heap.get?_push_ne _ _ _ (by rw[sz];exact Nat.ne_of_lt (Nat.lt_succ_of_lt lt)),Heap.get?_update_ne _ _ _ _ (Nat.ne_of_lt lt),Heap.get?_push_ne _ _ _ (Nat.ne_of_lt lt)];exact q
 have ltL:L < s.heap.objs.size:=F.ns.lt;show wpAny (model prog w) _ _ _ _ { s with heap:=((s.heap.push (seqObj "list" #[] 0)).update s.heap.objs.size (Obj.mapSeq (·++vs.toArray))).push (seqObj "list" vs.toArray 0) };rw[sz];refine wpAny_bind (wpAny_holding (wpAny_call_entry_kw slot_list_sort ⟨_,at1,rfl⟩ entry_list_sort ?body (ksk_l1 _ _)))
 case body=>
  have ht:=ksk_t1 f (s.heap.objs.size + 1);show wpAny (model prog w) A.in1.in1 (Builtin.«list.sort» ⟨[.ref (s.heap.objs.size + 1)],[(Str.ofString "key",.ref f)]⟩) _ _ _;rw[ht];refine Z4Q (s:={ s with heap:=((s.heap.push (seqObj "list" #[] 0)).update s.heap.objs.size (Obj.mapSeq (·++vs.toArray))).push (seqObj "list" vs.toArray 0) }) (F.kept kp) (N.grown kp) at1 (Nat.ne_of_gt (Nat.lt_succ_of_lt ltL))
   (Heap.get?_none_of_le (Nat.le_trans F.above (Nat.le_succ_of_le (Nat.le_of_lt ltL)))) (λp hp=>Nat.ne_of_lt (Nat.lt_succ_of_lt (Heap.lt_size (N p hp).1))) h2 hv λkS e1 g F' N' l0 l1=>?_
  refine kat_keys_mono (k _ kS e1 g F' N' l0 λq hq=>Nat.lt_succ_of_lt (Heap.lt_size (N q hq).1)) λks e s2 hl2 hd=>wpAny_mono hd (λκ s3 ⟨out,lo,run,fin⟩=>⟨out,lo,run _,fin.mono λs4 hq=>⟨_,rfl,wpAny_pure ⟨_,rfl,hq⟩⟩⟩) λ_ _ z=>z
end
noncomputable def ins (u n:Nat):List Nat:=List.range u++n::List.range' u (n - u)
theorem JR {u n:Nat}(h:u≤n):List.range n=List.range u++List.range' u (n - u):=by
 rw[List.range_eq_range',List.range_eq_range',show List.range' u (n - u)=List.range' (0 + u) (n - u) by rw[Nat.zero_add],List.range'_append_1]
 congr 1;omega
theorem Z3o {α:Type}(d:α)(us ts:List α)(a:α):(ins us.length (us.length + ts.length)).map (λi=>(us++ts++[a]).getD i d)=us++a::ts:=by
 unfold ins;rw[List.map_append,List.map_cons]
 congr 1
 ·apply List.ext_getElem? ;intro i
  by_cases h:i < us.length
  ·simp[h];rw[List.getElem?_append_left h];simp[h]
  ·simp[Nat.le_of_not_lt h]
 ·congr 1
  ·simp
  ·apply List.ext_getElem? ;intro i
   by_cases h:i < ts.length
   ·simp[h,List.getElem?_range'];rw[List.getElem?_append_right (by omega),Nat.add_sub_cancel_left,List.getElem?_append_left h];simp[h]
   ·simp[h]
structure InsK (lt:Nat→Nat→Bool)(u n:Nat):Prop where
 up:∀ i j,i < j→j < n→lt i j=true∧lt j i=false
 lo:∀ i,i < u→lt n i=false
 hi:∀ i,u≤i→i < n→lt n i=true
 le:u≤n
theorem Xv {α β:Type}{lt:Nat→Nat→Bool}{f:α→KasT β}:∀ {t:KasT α},(t.bind f).run lt=(f (t.run lt)).run lt
 | .ret a=>rfl
 | .ask i j k=>Xv (t:=k (lt i j))
theorem XZ {n i:Nat}(h:i < n):(List.toArray (List.range n)).getD i 0=i:=by simp[Array.getD,h]
theorem Z1o {lt:Nat→Nat→Bool}{m r:Nat}(up:∀ i,1≤i→i < r→lt i (i - 1)=false)(stop:r=m∨(r < m∧lt r (r - 1)=true)):∀ (f k:Nat),1≤k→k≤r→k + f=m→(kas_asc (List.toArray (List.range m)) f k).run lt=r
 | 0,k,h1,h2,h3=>by
   show k=r
   rcases stop with e|e<;>omega
 | f + 1,k,h1,h2,h3=>by
   show KasT.run lt (if lt ((List.toArray (List.range m)).getD k 0) ((List.toArray (List.range m)).getD (k - 1) 0)=true then KasT.ret k else kas_asc (List.toArray (List.range m)) f (k + 1))=r;rw[XZ (by omega),XZ (by omega)]
   by_cases e:k=r
   ·rw[e,(stop.resolve_left (by omega)).2,if_pos rfl];rfl
   ·rw[up k h1 (by omega),if_neg (by simp)];exact Z1o up stop f (k + 1) (by omega) (by omega) (by omega)
theorem Z07 {lt:Nat→Nat→Bool}{m k u:Nat}(hk:k < m)(lo:∀ i,i < u→lt k i=false)(hi:∀ i,u≤i→i < k→lt k i=true):∀ (f l r:Nat),l≤u→u≤r→r≤k→r - l≤f→(kas_place (List.toArray (List.range m)) k f l r).run lt=u
 | 0,l,r,h1,h2,h3,h4=>by show l=u;omega
 | f + 1,l,r,h1,h2,h3,h4=>by
   unfold kas_place
   by_cases e:l ≥ r
   ·rw[if_pos e];show l=u;omega
   ·rw[if_neg e];show KasT.run lt (if lt ((List.toArray (List.range m)).getD k 0) ((List.toArray (List.range m)).getD ((l + r) / 2) 0)=true then kas_place (List.toArray (List.range m)) k f l ((l + r) / 2) else kas_place (List.toArray (List.range m)) k f ((l + r) / 2 + 1) r)=u;rw[XZ hk,XZ (by omega)]
    by_cases e2:(l + r) / 2 < u
    ·rw[lo _ e2,if_neg (by simp)];exact Z07 hk lo hi f _ _ (by omega) (by omega) (by omega) (by omega)
    ·rw[hi _ (by omega) (by omega),if_pos rfl];exact Z07 hk lo hi f _ _ (by omega) (by omega) (by omega) (by omega)
theorem Z44 {u n:Nat}(h:u≤n):(bubble (List.toArray (List.range (n + 1))) n (n - u)).toList=ins u n:=by
 apply List.ext_getElem?;intro i;have:=getElem?_bubble (xs:=List.toArray (List.range (n + 1))) (src:=n) (by simp) (n - u) (by omega) i;rw[show n - (n - u)=u by omega] at this;rw[Array.getElem?_toList,this];unfold ins
 by_cases a1:i < u
 ·rw[if_neg (by omega),if_neg (by omega),List.getElem?_append_left (by simpa using a1)];simp[a1,show i < n + 1 by omega]
 ·by_cases a2:i=u
  ·rw[if_pos a2,List.getElem?_append_right (by simp;omega)];simp[a2]
  ·rw[if_neg a2,List.getElem?_append_right (by simp;omega)];obtain⟨j,rfl⟩:∃ j,i=u + 1 + j:=⟨i - u - 1,by omega⟩;rw[List.length_range,show u + 1 + j - u=j + 1 by omega,List.getElem?_cons_succ]
   by_cases a3:u + 1 + j≤n
   ·rw[if_pos (by omega),List.getElem?_range' (by omega)];rw[List.getElem?_toArray,List.getElem?_range (by omega)]
    congr 1;omega
   ·rw[if_neg (by omega),List.getElem?_toArray,List.getElem?_eq_none (by simp;omega),List.getElem?_eq_none (by simp;omega)]
theorem Z7q (n:Nat):ins n n=List.range (n + 1):=by unfold ins;simp[List.range_succ]
theorem Z4I {lt:Nat→Nat→Bool}{u n:Nat}(H:InsK lt u n):sortP lt (n + 1)=ins u n:=by
 unfold sortP
 by_cases n1:n=0
 ·subst n1;have:=H.le;have e:u=0:=by omega
  subst e;rfl
 rw[if_neg (by omega)];unfold kas_sort;rw[Xv]
 by_cases e:u=n
 ·have ec:(kas_count (n + 1) (List.toArray (List.range (n + 1)))).run lt=(n + 1,List.toArray (List.range (n + 1))):=by
   unfold kas_count;rw[Xv,Z1o (r:=n + 1) (λi h1 h2=>?_) (.inl rfl) (n + 1 - 1) 1 (by omega) (by omega) (by omega)]
   ·rw[if_pos (by simp)];rfl
   ·by_cases q:i=n
    ·rw[q];exact H.lo _ (by omega)
    ·exact (H.up (i - 1) i (by omega) (by omega)).2
  rw[ec,if_neg (by simp),e,Z7q];rfl
 ·have hl:=H.le;have asc:(kas_asc (List.toArray (List.range (n + 1))) (n + 1 - 1) 1).run lt=n:=Z1o (r:=n) (λi h1 h2=>(H.up (i - 1) i (by omega) (by omega)).2) (.inr ⟨by omega,H.hi _ (by omega) (by omega)⟩) (n + 1 - 1) 1 (by omega) (by omega) (by omega)
  by_cases q:n=1
  ·subst q;have e0:u=0:=by omega
   subst e0;have l1:lt 1 0=true:=H.hi 0 (by omega) (by omega);have ec:(kas_count (1 + 1) (List.toArray (List.range (1 + 1)))).run lt=(2,#[1,0]):=by
    unfold kas_count;rw[Xv,asc];rfl
   rw[ec];rfl
  ·have ec:(kas_count (n + 1) (List.toArray (List.range (n + 1)))).run lt=(n,List.toArray (List.range (n + 1))):=by
    unfold kas_count;rw[Xv,asc,if_neg (by simp),if_pos (by omega)];show KasT.run lt (if lt ((List.toArray (List.range (n + 1))).getD 0 0) ((List.toArray (List.range (n + 1))).getD (n - 1) 0)=true then _ else _)=_;rw[XZ (by omega),XZ (by omega),(H.up 0 (n - 1) (by omega) (by omega)).1,if_pos rfl];rfl
   rw[ec,if_pos (by simp)];show (KasT.run lt (kas_bin (n + 1 - max n 1) (List.toArray (List.range (n + 1))) (max n 1))).toList=_;rw[show n + 1 - max n 1=0 + 1 by omega,show max n 1=n by omega];show (KasT.run lt ((kas_place (List.toArray (List.range (n + 1))) n n 0 n).bind λl=>kas_bin 0 (bubble (List.toArray (List.range (n + 1))) n (n - l)) (n + 1))).toList=_;rw[Xv,Z07 (u:=u) (by omega) H.lo H.hi n 0 n (by omega) hl (by omega) (by omega)];exact Z44 hl
section
variable {X:Cx}{pins:List (Addr×Obj)}{σ:St}{H:Hp}{s:Shared}{k:Nat}{f:Addr}{fd:FuncData}{p:Str}{sp:Sp}
noncomputable def rdK (h:Heap):Value→Int×Int
 | .ref a=>match h.get? a with
   | some o=>match o.data with
     | .seq xs _=>match xs.toList with
       | [.int x _,.int y _]=>(x,y)
       | _=>(0,0)
     | _=>(0,0)
   | none=>(0,0)
 | _=>(0,0)
noncomputable def lt2 (a b:Int×Int):Bool:=decide (a.1 < b.1) || (decide (a.1=b.1) && decide (a.2 < b.2))
theorem Z6Z {ks:List (Int×Int)}{i j:Nat}:ltK ks i j=lt2 (ks.getD i (0,0)) (ks.getD j (0,0)):=rfl
theorem Z4L (xs ys:List Value)(n:Nat)(h1:xs.length=n)(h2:ys.length=n):xs.toArray.zip ys.toArray=((List.range n).map λi=>(xs.getD i Value.none,ys.getD i Value.none)).toArray:=by
 apply Array.toList_inj.mp;rw[ksk_zip];apply List.ext_getElem?;intro i
 by_cases h:i < n
 ·simp[h,List.getElem?_zipWith,show i < xs.length by omega,show i < ys.length by omega];rw[List.getElem?_zip_eq_some];exact⟨List.getElem?_eq_getElem _,List.getElem?_eq_getElem _⟩
 ·simp[h,List.getElem?_zipWith,show xs[i]? = none from List.getElem?_eq_none (by omega)];omega
theorem XT {α:Type}{g:Nat→α}{n i:Nat}(h:i < n):((List.range n).map g)[i]? = some (g i):=by simp[h]
theorem Z3k {l:Addr}{ks:List (Int×Int)}{ps:List Addr}{u n:Nat}{Q:VK}(F:FnOk X.prog X.w X.K X.mg X.base CX0 k f fd [p] sp)(hr:Room (k + 2) X.A)(hb:Binds X.K fd [p] [])(I:Inv X pins σ H s)(hl:SqL X.K H l (ps.map V.ref))(hn:ps.length=n + 1)(h64:63≤n)(h127:n < 127)
 (hi:InsK (ltK ks) u n)
 (hsp:∀ Hc,Same H Hc→∀ i,i < ps.length→sp [.ref (ps.getD i 0)] Hc (λv H2=>Same Hc H2∧∃ tp,v=.ref tp∧H2 tp=some (.tup (Z0n (ks.getD i (0,0))))) E0)
 (q:∀ D Hc,Same H Hc→H D=none→Hc D=some (.lst (((ins u n).map λi=>ps.getD i 0).map V.ref))→Q (.ref D) Hc) :
 wpAny (model X.prog X.w) X.A (call (.builtin "sorted") [.ref l] [(Str.ofString "key",.ref f)]) (EP X pins σ Q) X.xe s:=by
 obtain⟨its,rv,pp,hz⟩:=I.list hl;have ei:its=ps.map Value.ref:=Z1j rv;subst ei;obtain⟨m,F0⟩:=I.fr;refine Z4f (f:=f) F0 Xw pp.isList (by rw[List.length_map];omega) (by rw[List.length_map];omega) λD kS e1 h' F' N' l0 lt=>?_;obtain⟨J,hD,hK⟩:=I.byNews2 (t':=s.toks) F0 F' N' l0 lt;obtain⟨n1,n2,n3⟩:=N' (D,_) (.tail _ (.head _));obtain⟨p1,p2,p3⟩:=N' (kS,_) (.head _);have ne:D≠kS:=Nat.ne_of_lt l0;have nfD:NF X D:=λo u z=>by have:=I.base.frzs _ _ _ z;rw[hD] at this;cases this
 have nfK:NF X kS:=λo u z=>by have:=I.base.frzs _ _ _ z;rw[hK] at this;cases this
 have J1:=J.freezeL (d:=kS) Z1 p1;rw[Y3] at J1;have J2:=J1.freezeL (d:=D) (xs:=[]) (by rw[Z2 ne,Z1]) n1;have A0:KeysAt X pins σ H m D kS e1 ks [] 0 _ { s with heap:=h' }:=⟨J2,F',Z1,by rw[Z2 (Ne.symm ne),Z1];rfl,ne,nfD,nfK,λc o z=>by
  rw[Z2 (Z6 z hD),Z2 (Z6 z hK),Z2 (Z6 z hD)];exact z,⟨hD,hK⟩,λj hj=>by simp at hj,⟨n3,p3,n2,p2⟩⟩
 refine JK (ks:=ks) (ps:=ps) F hr hb (by omega) hsp (λtps e Hc s' hlen A=>?_) ps [] 0 _ _ (by simp) (λj hj=>by simp) A0;have tupAt:∀ j,j < tps.length→∃ o n t u,s'.heap.get? (tps.getD j 0)=some o∧o.cls=.type "tuple"∧o.data=.seq #[Value.int (ks.getD j (0,0)).1 t,Value.int (ks.getD j (0,0)).2 u] n:=λj hj=>by
  obtain⟨_,vs,rvs,o,g1,g2,n,g3⟩:=A.inv.hok _ _ (A.tup j hj);cases rvs with
  | cons r1 r2=>cases r2 with
    | cons r3 r4=>cases r4 with
      | nil=>
        obtain⟨t,rfl⟩:=r1;obtain⟨u,rfl⟩:=r3;exact⟨o,n,t,u,g1,g2,g3⟩
 obtain⟨fs,k1,k2,k3⟩:=JX (h:=s'.heap) tps λa ha=>by
  obtain⟨j,hj,ej⟩:=List.mem_iff_getElem.mp ha;obtain⟨o,n,t,u,g1,g2,g3⟩:=tupAt j hj;have e0:tps.getD j 0=a:=by simp[List.getD,hj,ej]
  rw[e0] at g1;exact⟨o,n,_,_,t,u,g1,g2,g3⟩
 refine kat_kind (T:=.type "int") k1 (by omega) (λv hv=>by obtain⟨z,t,rfl⟩:=k3 v hv;exact Looks.of_pure rfl) (by decide) ?_;refine⟨((ins u n).map λi=>ps.getD i 0).map Value.ref,?_,λEE Q' hq=>?_,A.end (by unfold ins;simp;have:=hi.le;omega) λs4 Hf If Sf eD=>⟨.ref D,Hf,If,rfl,q D Hf Sf hD eD⟩⟩
 ·unfold ins;simp;have:=hi.le;omega
 have lt':tps.length=n + 1:=by omega
 rw[Z4L (tps.map Value.ref) (ps.map Value.ref) (n + 1) (by simpa using lt') (by simpa using hn)];have it:∀ i,i < n + 1→((tps.map Value.ref).getD i Value.none,(ps.map Value.ref).getD i Value.none)=(Value.ref (tps.getD i 0),Value.ref (ps.getD i 0)):=λi h=>by
  simp[List.getD,show i < tps.length by omega,show i < ps.length by omega]
 have er:((List.range (n + 1)).map λi=>((tps.map Value.ref).getD i Value.none,(ps.map Value.ref).getD i Value.none))=(List.range u).map (λi=>(Value.ref (tps.getD i 0),Value.ref (ps.getD i 0)))++(List.range' u (n - u)).map (λi=>(Value.ref (tps.getD i 0),Value.ref (ps.getD i 0)))++[(Value.ref (tps.getD n 0),Value.ref (ps.getD n 0))]:=by
  rw[←List.map_append,←JR hi.le];have:=List.range_succ (n:=n);rw[List.map_congr_left (g:=λi=>(Value.ref (tps.getD i 0),Value.ref (ps.getD i 0))) λi hi'=>it i (by simpa using hi'),this,List.map_append];rfl
 have eo:∀ st':SortSt,arrOf st'=((List.range u).map (λi=>(Value.ref (tps.getD i 0),Value.ref (ps.getD i 0)))++(Value.ref (tps.getD n 0),Value.ref (ps.getD n 0))::(List.range' u (n - u)).map (λi=>(Value.ref (tps.getD i 0),Value.ref (ps.getD i 0)))).toArray→
  (arrOf st').map (·.2)=(((ins u n).map λi=>ps.getD i 0).map Value.ref).toArray:=λst' e=>by
  rw[e];apply Array.toList_inj.mp;unfold ins;simp;rfl
 have kk:∀ i,i < n + 1→rdK s'.heap (Value.ref (tps.getD i 0))=ks.getD i (0,0):=λi h=>by
  obtain⟨o,n,t,u,g1,g2,g3⟩:=tupAt i (by omega);simp only[rdK,g1,g3]
 have hc:XH X.prog X.w X.A.in1.in1 s' (tuples' (Value.type "int" != Value.type "tuple")) (λx=>∃ i,i < n + 1∧x=(Value.ref (tps.getD i 0),Value.ref (ps.getD i 0))) λx y=>lt2 (rdK s'.heap x.1) (rdK s'.heap y.1):=by
  rintro x y ⟨i,hi',rfl⟩ ⟨j,hj',rfl⟩ C c;dsimp only at c ⊢;rw[kk i hi',kk j hj',←Z6Z] at c;obtain⟨o1,n1,t1,u1,a1,a2,a3⟩:=tupAt i (by omega);obtain⟨o2,n2,t2,u2,b1,b2,b3⟩:=tupAt j (by omega);refine kat_lt a1 a3 b1 b3 ?_;refine kat_cons (wpAny_eqBool_int ?_)
  by_cases e1:(ks.getD i (0,0)).1=(ks.getD j (0,0)).1
  ·rw[beq_iff_eq.mpr e1];refine kat_yes (kat_cons (wpAny_eqBool_int ?_))
   by_cases e2:(ks.getD i (0,0)).2=(ks.getD j (0,0)).2
   ·rw[beq_iff_eq.mpr e2];refine kat_yes (kat_nil ?_);have el:ltK ks i j=false:=by unfold ltK;generalize ks.getD i (0,0)=a at e1 e2 ⊢;generalize ks.getD j (0,0)=b at e1 e2 ⊢;simp[e1,e2]
    rw[el] at c;exact c
   ·rw[beq_eq_false_iff_ne.mpr e2];refine kat_no (kat_one _ _ (lt_int ?_));show C _ s';have el:ltK ks i j=decide ((ks.getD i (0,0)).2 < (ks.getD j (0,0)).2):=by unfold ltK;generalize ks.getD i (0,0)=a at e1 ⊢;generalize ks.getD j (0,0)=b at e1 ⊢;simp[e1]
    rw[el] at c;exact c
  ·rw[beq_eq_false_iff_ne.mpr e1];refine kat_no (oneLt_int ?_);have el:ltK ks i j=decide ((ks.getD i (0,0)).1 < (ks.getD j (0,0)).1):=by unfold ltK;generalize ks.getD i (0,0)=a at e1 ⊢;generalize ks.getD j (0,0)=b at e1 ⊢;simp[e1]
   rw[el] at c;exact c
 have kl:∀ i j,i < n + 1→j < n + 1→lt2 (rdK s'.heap (Value.ref (tps.getD i 0))) (rdK s'.heap (Value.ref (tps.getD j 0)))=ltK ks i j:=λi j h1 h2=>by rw[kk i h1,kk j h2];rfl
 have hS:∀ x∈(List.range u).map (λi=>(Value.ref (tps.getD i 0),Value.ref (ps.getD i 0)))++(List.range' u (n - u)).map (λi=>(Value.ref (tps.getD i 0),Value.ref (ps.getD i 0)))++[(Value.ref (tps.getD n 0),Value.ref (ps.getD n 0))],∃ i,i < n + 1∧x=(Value.ref (tps.getD i 0),Value.ref (ps.getD i 0)):=λx hx=>by
  rw[←List.map_append,←JR hi.le] at hx
  rcases List.mem_append.mp hx with hx|hx
  ·obtain⟨i,h1,h2⟩:=List.mem_map.mp hx;exact⟨i,by have:=List.mem_range.mp h1;omega,h2.symm⟩
  ·exact⟨n,by omega,by simpa using hx⟩
 have fin:∀ st':SortSt,arrOf st'=((List.range u).map (λi=>(Value.ref (tps.getD i 0),Value.ref (ps.getD i 0)))++(Value.ref (tps.getD n 0),Value.ref (ps.getD n 0))::(List.range' u (n - u)).map (λi=>(Value.ref (tps.getD i 0),Value.ref (ps.getD i 0)))).toArray→failedOf st'=none→Q' () st':=λst' a1 a2=>hq st' (eo st' a1) a2;rw[er];have hle:=hi.le
 by_cases e:u=n
 ·subst e;rw[Nat.sub_self] at hS fin ⊢;rw[show (List.range' u 0).map (λi=>(Value.ref (tps.getD i 0),Value.ref (ps.getD i 0)))=[] from rfl] at hS fin ⊢;rw[List.append_nil] at hS ⊢;refine Z5W hc hS (by simpa using h64) (by simpa using h127) (λi x y h1 h2 g1 g2=>?_) fin;have h2:i < u + 1:=by simpa using h2
  have ea:(List.range u).map (λi=>(Value.ref (tps.getD i 0),Value.ref (ps.getD i 0)))++[(Value.ref (tps.getD u 0),Value.ref (ps.getD u 0))]=(List.range (u + 1)).map (λi=>(Value.ref (tps.getD i 0),Value.ref (ps.getD i 0))):=by rw[List.range_succ,List.map_append];rfl
  rw[ea,XT (by omega)] at g1 g2;obtain rfl:=Option.some.inj g1;obtain rfl:=Option.some.inj g2;dsimp only;rw[kl _ _ (by omega) (by omega)]
  by_cases q:i=u
  ·rw[q];exact hi.lo _ (by omega)
  ·exact (hi.up (i - 1) i (by omega) (by omega)).2
 ·have ll:((List.range u).map (λi=>(Value.ref (tps.getD i 0),Value.ref (ps.getD i 0)))).length + ((List.range' u (n - u)).map (λi=>(Value.ref (tps.getD i 0),Value.ref (ps.getD i 0)))).length=n:=by simp;omega
  have ea:(List.range u).map (λi=>(Value.ref (tps.getD i 0),Value.ref (ps.getD i 0)))++(List.range' u (n - u)).map (λi=>(Value.ref (tps.getD i 0),Value.ref (ps.getD i 0)))=(List.range n).map (λi=>(Value.ref (tps.getD i 0),Value.ref (ps.getD i 0))):=by rw[←List.map_append,←JR hle]
  refine Z4u hc hS (λz=>by have:=congrArg List.length z;simp at this;omega) (by rw[ll];exact h64) (by rw[ll];exact h127) (λi x y h1 h2 g1 g2=>?_) (λx y g1 g2=>?_) (λx hx=>?_) (λx hx=>?_) fin
  ·rw[ll] at h2;rw[ea,XT (by omega)] at g1 g2;obtain rfl:=Option.some.inj g1;obtain rfl:=Option.some.inj g2;dsimp only;rw[kl _ _ (by omega) (by omega)];exact (hi.up (i - 1) i (by omega) h2).2
  ·rw[ll] at g2;rw[ea,XT (by omega)] at g1 g2;obtain rfl:=Option.some.inj g1;obtain rfl:=Option.some.inj g2;dsimp only;rw[kl _ _ (by omega) (by omega)];exact (hi.up 0 (n - 1) (by omega) (by omega)).1
  ·obtain⟨i,h1,rfl⟩:=List.mem_map.mp hx;have h1:=List.mem_range.mp h1;dsimp only;rw[kl _ _ (by omega) (by omega)];exact hi.lo _ h1
  ·obtain⟨i,h1,rfl⟩:=List.mem_map.mp hx;have h1:=List.mem_range'_1.mp h1;dsimp only;rw[kl _ _ (by omega) (by omega)];exact hi.hi _ h1.1 (by omega)
noncomputable def Z0H (K:Frag)(sp:Sp)(Q:VK)(x:V)(H1:Hp):Prop:=∃ (l:Addr) (us ts:List Addr) (a:Addr) (ks:List (Int×Int)),x=.ref l∧SqL K H1 l ((us++ts++[a]).map V.ref)∧us.length + ts.length < 127∧InsK (ltK ks) us.length (us.length + ts.length)∧
 (∀ Hc,Same H1 Hc→∀ i,i < (us++ts++[a]).length→sp [.ref ((us++ts++[a]).getD i 0)] Hc (λv H2=>Same Hc H2∧∃ tp,v=.ref tp∧H2 tp=some (.tup (Z0n (ks.getD i (0,0))))) E0)∧
 ∀ D Hc,Same H1 Hc→H1 D=none→Hc D=some (.lst ((us++a::ts).map V.ref))→Q (.ref D) Hc
noncomputable def Z4p (K:Frag)(sp:Sp)(Q:VK):List V→Hp→Prop
 | [x],H1=>Z0H K sp Q x H1
 | _,_=>False
noncomputable def Z4V (K:Frag)(sp:Sp)(te:TE):TE:=λσ H Q=>te σ H λx H1=>Z0H K sp Q x H1
theorem Z5V {K:Frag}{sp:Sp}{te:TE}{σ:St}{H:Hp}{Q:VK}(q:te σ H λx H1=>Z0H K sp Q x H1):Z4V K sp te σ H Q:=q
theorem Z6g {e:Expr}{te:TE}{fn:Str}{np kp kpos pos:Pos}(F:FnOk X.prog X.w X.K X.mg X.base CX0 k f fd [p] sp)(hr:Room (k + 2) X.A)(hb:Binds X.K fd [p] [])(hg:Gl X "sorted")(hm:X.mg "sorted" = none)(hgf:Gl X fn)(hmf:X.mg fn=some (.ref f))(he:PE X e te)
 (hd:(fn == ("__debug__" : Str))=false:=by decide) (h1:starEach [e] X.env=(false,eval e X.env)::starEach [] X.env:=by rfl) :
 PE X (.Call (.Name "sorted" np) [e] [⟨some "key",.Name fn kp,kpos⟩] pos) (Z4V X.K sp te):=by
 intro pins s σ H Q I h;refine wpAny_Call_Name_kw (Z03 I hg hm PyProof.Rows.boot_sorted ?_ (by decide) (by decide));refine callWith_kw (thn ((Z0 he Z4 h1) pos pins s σ H (Z4p X.K sp Q) I h) λus s1 zq=>?_) (by rw[h1];rfl) (by rw[h1];rfl);obtain⟨vs,H1,I1,rv,qq⟩:=zq
 match vs,qq with
 | [x],⟨l,us,ts,a,ks,exl,hl,h127,hi,hsp,q⟩=>
   obtain⟨u,rfl,rx⟩:=Xc rv;subst exl;obtain rfl:u=Value.ref l:=rx;refine kws_cons (YR I1 hgf hmf (kws_nil ?_) hd);show wpAny (model X.prog X.w) X.A (call (.builtin "sorted") [.ref l] [(Str.ofString "key",.ref f)]) (EP X pins σ Q) X.xe s1;have hlen:(us++ts++[a]).length=us.length + ts.length + 1:=by simp;omega
   by_cases few:1≤us.length + ts.length
   ·by_cases big:63≤us.length + ts.length
    ·refine Z3k F hr hb I1 hl hlen big h127 hi hsp λD Hc S1 n1 e1=>q D Hc S1 n1 ?_;rw[e1,Z3o]
    ·refine Z3Q F hr hb I1 hl (by omega) (by omega) hsp λD Hc S1 n1 e1=>q D Hc S1 n1 ?_;rw[e1];unfold Z0T;rw[hlen,Z4I hi,Z3o]
   ·have e1:us=[]:=List.length_eq_zero_iff.mp (by omega);have e2:ts=[]:=List.length_eq_zero_iff.mp (by omega);subst e1;subst e2;exact Z33 F hr hb I1 hl hsp λD Hc S1 n1 e1=>q D Hc S1 n1 e1
end
end L2
set_option maxHeartbeats 8000000
local macro_rules | `(tactic| walk_at "s")=>`(tactic| exact⟨rfl,rfl,rfl,by decide +kernel,rfl,by decide +kernel,by decide +kernel⟩)
local macro_rules | `(tactic| walk_at "0")=>`(tactic| exact λ_ _ _ _ _ _ us hl=>match us,hl with|[],_=>rfl)
local macro_rules | `(tactic| walk_at "1")=>`(tactic| exact λ_ _ _ _ _ _ us hl=>match us,hl with|[_],_=>rfl)
local macro_rules | `(tactic| walk_at "2")=>`(tactic| exact λ_ _ _ _ _ _ us hl=>match us,hl with|[_,_],_=>rfl)
local macro_rules | `(tactic| walk_at "3")=>`(tactic| exact λ_ _ _ _ _ _ us hl=>match us,hl with|[_,_,_],_=>rfl)
local macro_rules | `(tactic| walk_at "4")=>`(tactic| exact λ_ _ _ _ _ _ us hl=>match us,hl with|[_,_,_,_],_=>rfl)
local macro_rules | `(tactic| walk_at "6")=>`(tactic| exact λ_ _ _ _ _ _ us hl=>match us,hl with|[_,_,_,_,_,_],_=>rfl)
local macro_rules | `(tactic| walk_at "rd1")=>`(tactic| first
 | ((with_reducible refine' L2.rd_var ?k1 ?_);(case k1=>exact rfl))
 | with_reducible refine L2.rd_c ?_
 | with_reducible refine L2.rd_op ?_
 | with_reducible refine L2.rd_un ?_
 | with_reducible refine L2.rd_I0 ?_
 | with_reducible refine L2.rd_U ?_
 | with_reducible refine L2.rd_eqI ?_
 | with_reducible refine L2.rd_neI ?_
 | with_reducible refine L2.rd_test ?_
 | with_reducible refine L2.rd_bl ?_
 | with_reducible refine L2.rd_tB ?_
 | with_reducible refine L2.rd_seq ?_
 | with_reducible refine L2.rd_next ?_
 | with_reducible refine L2.rd_asg ?_
 | with_reducible refine L2.rd_gname ?_
 | with_reducible refine L2.rd_drop ?_
 | with_reducible refine L2.rd_ret ?_
 | with_reducible refine L2.rd_retN ?_
 | with_reducible refine L2.rd_if ?_
 | with_reducible refine L2.rd_and ?_
 | with_reducible refine L2.rd_or ?_
 | with_reducible refine L2.rd_not ?_
 | with_reducible refine L2.rd_andV ?_
 | with_reducible refine L2.rd_orV ?_
 | with_reducible refine L2.rd_notV ?_
 | with_reducible refine L2.rd_ifE ?_
 | with_reducible refine L2.rd_nil ?_
 | with_reducible refine L2.rd_cons ?_
 | with_reducible refine L2.rd_call ?_
 | with_reducible refine L2.rd_cb ?_
 | with_reducible refine L2.rd_lst ?_
 | with_reducible refine L2.rd_tup ?_
 | with_reducible refine L2.rd_chain ?_
 | with_reducible refine L2.rd_bm ?_
 | with_reducible refine L2.rd_bm0 ?_
 | with_reducible refine L2.rd_gsub ?_
 | with_reducible refine L2.rd_ipI ?_
 | with_reducible refine L2.rd_int_b ?_
 | with_reducible refine L2.rd_fld ?_
 | with_reducible refine L2.rd_sfld ?_
 | with_reducible refine L2.rd_meth ?_
 | with_reducible refine L2.rd_make ?_
 | with_reducible refine L2.rd_dget ?_
 | with_reducible refine L2.rd_dput ?_
 | with_reducible refine L2.rd_raise ?_
 | with_reducible refine L2.rd_items ?_
 | with_reducible refine L2.rd_thaw ?_
 | with_reducible refine L2.rd_sl ?_
 | with_reducible refine L2.rd_part ?_
 | with_reducible refine L2.rd_nopart ?_
 | with_reducible refine L2.rd_sortK ?_
 | with_reducible refine L2.rd_getF ?_
 | ((with_reducible refine' L2.rd_aug ?k1 ?_);(case k1=>exact rfl))
 | ((with_reducible refine L2.rd_I ?k1 ?_);(case k1=>walk_at "rdc"))
 | dsimp only)
local macro_rules | `(tactic| walk_at "rdc")=>`(tactic| first
 | (show (0:Int) < _;first|decide|omega)
 | (show _∧_;refine⟨?_,?_⟩<;>first|decide|omega)
 | (show _∨_;first|exact Or.inr ⟨by decide,by decide⟩|exact Or.inl ⟨by decide,by decide⟩|exact Or.inr ⟨by omega,by omega⟩|exact Or.inl ⟨by omega,by omega⟩)
 | (show _∧_∧_;exact⟨by decide,by decide,by decide⟩))
local macro_rules | `(tactic| walk_at "r")=>`(tactic| repeat (walk_at "rd1"))
local macro_rules | `(tactic| walk_at "rv1")=>`(tactic| first
 | ((with_reducible refine' L2.rd_var ?k1 ?_);(case k1=>exact rfl))
 | with_reducible refine L2.rd_c ?_
 | with_reducible refine L2.rd_op ?_
 | with_reducible refine L2.rd_un ?_
 | with_reducible refine L2.rd_I0 ?_
 | with_reducible refine L2.rd_U ?_
 | with_reducible refine L2.rd_eqI ?_
 | with_reducible refine L2.rd_neI ?_
 | with_reducible refine L2.rd_test ?_
 | with_reducible refine L2.rd_bl ?_
 | with_reducible refine L2.rd_tB ?_
 | ((with_reducible refine L2.rd_seqV ?_);intro _ _)
 | with_reducible refine L2.rd_next ?_
 | with_reducible refine L2.rd_asg ?_
 | with_reducible refine L2.rd_gname ?_
 | with_reducible refine L2.rd_drop ?_
 | with_reducible refine L2.rd_ret ?_
 | with_reducible refine L2.rd_retN ?_
 | with_reducible refine L2.rd_if ?_
 | with_reducible refine L2.rd_and ?_
 | with_reducible refine L2.rd_or ?_
 | with_reducible refine L2.rd_not ?_
 | with_reducible refine L2.rd_andV ?_
 | with_reducible refine L2.rd_orV ?_
 | with_reducible refine L2.rd_notV ?_
 | with_reducible refine L2.rd_ifE ?_
 | with_reducible refine L2.rd_nil ?_
 | with_reducible refine L2.rd_cons ?_
 | with_reducible refine L2.rd_call ?_
 | with_reducible refine L2.rd_cb ?_
 | with_reducible refine L2.rd_lst ?_
 | with_reducible refine L2.rd_tup ?_
 | with_reducible refine L2.rd_chain ?_
 | with_reducible refine L2.rd_bm ?_
 | with_reducible refine L2.rd_bm0 ?_
 | with_reducible refine L2.rd_gsub ?_
 | with_reducible refine L2.rd_ipI ?_
 | with_reducible refine L2.rd_int_b ?_
 | with_reducible refine L2.rd_fld ?_
 | with_reducible refine L2.rd_sfld ?_
 | with_reducible refine L2.rd_meth ?_
 | with_reducible refine L2.rd_make ?_
 | with_reducible refine L2.rd_dget ?_
 | with_reducible refine L2.rd_dput ?_
 | with_reducible refine L2.rd_raise ?_
 | with_reducible refine L2.rd_items ?_
 | with_reducible refine L2.rd_thaw ?_
 | with_reducible refine L2.rd_sl ?_
 | with_reducible refine L2.rd_part ?_
 | with_reducible refine L2.rd_nopart ?_
 | with_reducible refine L2.rd_sortK ?_
 | with_reducible refine L2.rd_getF ?_
 | ((with_reducible refine' L2.rd_aug ?k1 ?_);(case k1=>exact rfl))
 | ((with_reducible refine L2.rd_I ?k1 ?_);(case k1=>walk_at "rdc"))
 | dsimp only
 | (with_reducible refine L2.Nx.go (by assumption) ?_))
local macro_rules | `(tactic| walk_at "v")=>`(tactic| repeat (walk_at "rv1"))
namespace My
open PySem PySem.Spec PyProof.Rows L2
noncomputable def top (i:Nat):Stmt:=PySem.Challenge.pw_cartelship_k40_a_book_without_room.main.body.getD i (.Pass ⟨0,0,0,0⟩)
noncomputable abbrev ZN:Stmt:=top 34
noncomputable abbrev Yr:Stmt:=top 38
noncomputable abbrev YO:Stmt:=top 39
noncomputable abbrev X5:Stmt:=top 40
noncomputable abbrev Yd:Stmt:=top 41
noncomputable abbrev YJ:Stmt:=top 42
noncomputable abbrev Xb:Stmt:=top 43
noncomputable abbrev XL:Stmt:=top 44
noncomputable abbrev Xr:Stmt:=top 48
noncomputable abbrev Xm:Stmt:=top 50
noncomputable abbrev Yo:Stmt:=top 55
noncomputable abbrev YM:Stmt:=top 56
noncomputable abbrev Yw:Stmt:=top 65
noncomputable abbrev YI:Stmt:=top 66
noncomputable abbrev X4:Stmt:=top 67
noncomputable abbrev YU:Stmt:=top 70
noncomputable abbrev X8:Stmt:=top 71
noncomputable abbrev Y5:Stmt:=top 72
noncomputable abbrev YQ:Stmt:=top 73
noncomputable abbrev Yp:Stmt:=top 74
noncomputable abbrev Yq:Stmt:=top 75
noncomputable abbrev Yl:Stmt:=top 77
noncomputable abbrev Yb:Stmt:=top 78
noncomputable abbrev Y4:Stmt:=top 80
noncomputable abbrev Yv:Stmt:=top 81
noncomputable abbrev YH:Stmt:=top 82
noncomputable abbrev X3:Stmt:=top 83
noncomputable abbrev YL:Stmt:=top 85
noncomputable abbrev ZX:Stmt:=top 86
noncomputable abbrev Jr:Stmt:=top 90
noncomputable abbrev Xx:Stmt:=top 91
noncomputable abbrev J8:Stmt:=top 92
noncomputable abbrev Xf:Stmt:=top 93
noncomputable abbrev Xn:Stmt:=top 94
noncomputable abbrev Y7:Stmt:=top 95
noncomputable abbrev J7:Stmt:=top 96
noncomputable abbrev Jk:Stmt:=top 97
noncomputable abbrev X6:Stmt:=ZS (top 32) 0
noncomputable abbrev Yk:Stmt:=ZS (top 33) 0
noncomputable abbrev YV:Stmt:=ZS (top 64) 0
noncomputable abbrev YC:Stmt:=ZS (top 22) 0
noncomputable abbrev YD:Stmt:=ZS (top 88) 0
noncomputable abbrev Yc:Stmt:=ZS (top 88) 1
noncomputable abbrev YK:Stmt:=ZS (top 88) 5
noncomputable abbrev X7:Stmt:=ZS (top 88) 6
noncomputable abbrev Yj:Stmt:=ZS (top 88) 8
noncomputable abbrev YE:Stmt:=ZS (top 88) 10
noncomputable abbrev YF:Stmt:=ZS (top 88) 11
noncomputable abbrev YS:Stmt:=ZS (top 88) 12
noncomputable abbrev YT:Stmt:=ZS (top 88) 14
noncomputable abbrev Ys:Stmt:=ZS (top 88) 18
noncomputable abbrev YB:Stmt:=ZS (top 88) 19
noncomputable abbrev Yx:Stmt:=ZS (top 88) 21
noncomputable abbrev Xa:List Str:=["man","side","claim"]
theorem ZbO:FnScope ["man","side","claim"] ["man"] (Z3 ZN):=by walk_at "s"
theorem Z1S:FnScope ["man"] ["man"] (Z3 Yr):=by walk_at "s"
theorem Z2r:FnScope ["man"] ["man"] (Z3 YO):=by walk_at "s"
theorem ZcD:FnScope ["muster","day","deed","man","side"] ["muster","day","deed"] (Z3 X5):=by walk_at "s"
theorem ZaD:FnScope ["muster","day","deed","man","side"] ["muster","day","deed"] (Z3 Yd):=by walk_at "s"
theorem Zdo:FnScope ["muster","day","deed","man"] ["muster","day","deed"] (Z3 YJ):=by walk_at "s"
theorem ZeE:FnScope ["muster","day","deed","doing"] ["muster","day","deed"] (Z3 Xm):=by walk_at "s"
noncomputable abbrev Z3i:List Str:=["text","signs"]
theorem Z2K:FnScope ["text","signs"] ["text","signs"] (Z3 Yo):=by walk_at "s"
theorem Z2g:FnScope ["text"] ["text"] (Z3 YM):=by walk_at "s"
theorem Z1Q:FnScope [] [] (Z3 Yw):=by walk_at "s"
theorem Z2w:FnScope ["page","name"] ["page","name"] (Z3 YI):=by walk_at "s"
theorem Z3g:FnScope ["page","name"] ["page","name"] (Z3 X4):=by walk_at "s"
theorem Z2x:FnScope ["rank"] ["rank"] (Z3 YU):=by walk_at "s"
theorem Z2Y:FnScope ["day"] ["day"] (Z3 X8):=by walk_at "s"
theorem Z0L:FnScope ["name","table"] ["name","table"] (Z3 Y5):=by walk_at "s"
theorem Z2B:FnScope ["many","most"] ["many","most"] (Z3 YQ):=by walk_at "s"
noncomputable abbrev Z38:List Str:=["page","number"]
theorem Z2n:FnScope ["page","number"] ["page","number"] (Z3 Yp):=by walk_at "s"
theorem Z1V:FnScope ["page","deed"] ["page","deed"] (Z3 Yq):=by walk_at "s"
theorem Z1k:FnScope ["muster","number","day","deed"] ["muster","number","day","deed"] (Z3 Yl):=by walk_at "s"
theorem Z9E:FnScope ["page","told","muster","number","day","deed"] ["page","told"] (Z3 Yb):=by walk_at "s"
theorem Z0y:FnScope ["entry"] ["entry"] (Z3 Y4):=by walk_at "s"
theorem Zdb:FnScope ["page","entries","next_number","deed_list"] ["page","entries","next_number"] (Z3 Yv):=by walk_at "s"
theorem Z25:FnScope ["page","name"] ["page","name"] (Z3 YH):=by walk_at "s"
theorem ZdW:FnScope ["page","name","side","rank","man_table"] ["page","name","side","rank"] (Z3 X3):=by walk_at "s"
theorem Zdl:FnScope ["page","number","day","deed","after"] ["page","number","day","deed"] (Z3 YL):=by walk_at "s"
noncomputable abbrev Z1f:List Str:=["page","number","after"]
theorem Zc4:FnScope ["page","number","after"] ["page","number"] (Z3 ZX):=by walk_at "s"
theorem ZdM:FnScope ["_law_script","_law_seed","_law_cell"] ["_law_script"] (Z3 Jr):=by walk_at "s"
theorem Zf0:FnScope ["_law_number","_law_turn","_law_one"] ["_law_number","_law_turn"] (Z3 Xx):=by walk_at "s"
theorem Zee:FnScope ["_law_box_here","_law_size","_law_left","_law_cell"] ["_law_box_here","_law_size"] (Z3 J8):=by walk_at "s"
noncomputable abbrev Z6q:List Str:=["_law_box_here","_law_alike","_law_letters","_law_size","_law_word","_law_base","_law_at"]
theorem Zc9:FnScope ["_law_box_here","_law_alike","_law_letters","_law_size","_law_word","_law_base","_law_at"] ["_law_box_here","_law_alike"] (Z3 Xf):=by walk_at "s"
theorem Z9G:FnScope ["_law_e","_law_kinds","_law_words"] ["_law_e"] (Z3 Xn):=by walk_at "s"
noncomputable abbrev Z1W:List Str:=["_law_box_here","_law_many","_law_letters"]
theorem ZcP:FnScope ["_law_box_here","_law_many","_law_letters"] ["_law_box_here","_law_many"] (Z3 Y7):=by walk_at "s"
theorem Zd1:FnScope ["_law_book","_law_way","_law_name","_law_day","_law_word","_law_e"] ["_law_book","_law_way","_law_name","_law_day"] (Z3 J7):=by walk_at "s"
noncomputable abbrev Z6E:List Str:=["_law_script","_law_box_here","_law_sides","_law_men","_law_book","_law_base","_law_name","_law_at","_law_one","_law_fresh","_law_asked","_law_due","_law_found","_law_number"]
theorem Z9r:FnScope ["_law_script","_law_box_here","_law_sides","_law_men","_law_book","_law_base","_law_name","_law_at","_law_one","_law_fresh","_law_asked","_law_due","_law_found","_law_number"] ["_law_script"] (Z3 Jk):=by walk_at "s"
theorem Z3c:FnScope ["self","home","grade"] ["self","home","grade"] (Z3 X6):=by walk_at "s"
theorem ZaT:FnScope ["self","man_table","cartel_table","name","origin"] ["self","man_table","cartel_table"] (Z3 Yk):=by walk_at "s"
theorem Z2u:FnScope ["self","side_names","man_table","cartel_table","deed_list","next_number"] ["self","side_names","man_table","cartel_table","deed_list","next_number"] (Z3 YV):=by walk_at "s"
theorem Z27:FnScope ["self"] ["self"] (Z3 YD):=by walk_at "s"
theorem Z0Y:FnScope ["self","page"] ["self","page"] (Z3 Yc):=by walk_at "s"
theorem Z2U:FnScope ["self","name"] ["self","name"] (Z3 YK):=by walk_at "s"
theorem Z3d:FnScope ["self","name","side","rank"] ["self","name","side","rank"] (Z3 X7):=by walk_at "s"
theorem Z1e:FnScope ["self","number"] ["self","number"] (Z3 Yj):=by walk_at "s"
theorem ZdG:FnScope ["self","day","deed","number"] ["self","day","deed"] (Z3 YE):=by walk_at "s"
theorem Z2E:FnScope ["self","day","man","side"] ["self","day","man","side"] (Z3 YF):=by walk_at "s"
theorem Z24:FnScope ["self","day","man"] ["self","day","man"] (Z3 YS):=by walk_at "s"
theorem Z22:FnScope ["self","day","man"] ["self","day","man"] (Z3 YT):=by walk_at "s"
theorem Z1R:FnScope ["self"] ["self"] (Z3 Ys):=by walk_at "s"
noncomputable abbrev Z3U:List Str:=["self"]
theorem Z3a:FnScope ["self"] ["self"] (Z3 YB):=by walk_at "s"
theorem Z1P:FnScope ["self"] ["self"] (Z3 Yx):=by walk_at "s"
set_option genInjectivity false in
structure Ad where
 Z9K:Addr
 Zc3:Addr
 Zcw:Addr
 Zay:Addr
 Z9M:Addr
 Z9V:Addr
 Zcc:Addr
 ZdA:Addr
 ZcY:Addr
 ZdD:Addr
 Zcp:Addr
 Zch:Addr
 ZbD:Addr
 ZcH:Addr
 ZcW:Addr
 Zcg:Addr
 Zd8:Addr
 Zas:Addr
 Zcr:Addr
 ZcE:Addr
 ZbH:Addr
 Zbd:Addr
 ZaN:Addr
 Zat:Addr
 ZbF:Addr
 ZcK:Addr
 Zd9:Addr
 Zcn:Addr
 ZaM:Addr
 Zfp:Addr
 Zep:Addr
 ZeR:Addr
 Zen:Addr
 Zc5:Addr
 Zbk:Addr
 ZeW:Addr
 ZfX:Addr
 ZaA:Addr
 Z9T:Addr
 Za8:Addr
 Zak:Addr
 Zah:Addr
 Za7:Addr
 ZaY:Addr
 Zbs:Addr
 Zal:Addr
 Zba:Addr
 Zb8:Addr
 Zb6:Addr
 Zb5:Addr
 ZaJ:Addr
 Zbr:Addr
 ZaI:Addr
 ZbA:FuncData
 Zbi:FuncData
 Zc1:FuncData
 Zce:FuncData
 ZaC:FuncData
 Zc2:FuncData
 ZdE:FuncData
 Zeq:FuncData
 Ze5:FuncData
 Zd2:FuncData
 Zbx:FuncData
 ZbW:FuncData
 Zbb:FuncData
 ZbK:FuncData
 ZcI:FuncData
 ZbX:FuncData
 Zcx:FuncData
 Zam:FuncData
 ZbP:FuncData
 ZbV:FuncData
 Zbm:FuncData
 ZaQ:FuncData
 ZaG:FuncData
 Zan:FuncData
 Zbl:FuncData
 ZbG:FuncData
 Zcy:FuncData
 ZbR:FuncData
 Zav:FuncData
 ZeS:FuncData
 ZdI:FuncData
 Zek:FuncData
 Zdy:FuncData
 Zbt:FuncData
 ZaK:FuncData
 Zeo:FuncData
 Zfd:FuncData
 Zcz:FuncData
 ZaR:FuncData
 ZbL:FuncData
 ZcS:FuncData
 ZbZ:FuncData
 Zao:FuncData
 ZbN:FuncData
 Zcq:FuncData
 ZaV:FuncData
 ZbE:FuncData
 ZbB:FuncData
 ZbU:FuncData
 ZbQ:FuncData
 Zbc:FuncData
 Zct:FuncData
 Zbh:FuncData
 Z92:Addr
 Z9h:Addr
 Z9u:Addr
 Z9B:Addr
 Z9p:Addr
 Z9w:Addr
 Z9j:Addr
 Za1:Addr
 Z9c:Addr
 Z9f:Addr
 Z9q:Addr
 Z9g:Addr
 Z9z:Addr
 Z9x:Addr
 Z9H:Addr
 Z9F:Addr
 Z9m:Addr
 Z9l:Addr
 Z9t:Addr
 Z9s:Addr
 Z9d:Addr
 Z9o:Addr
 Z97:Addr
 Z98:Addr
 Z93:Addr
 Z9e:Addr
structure Txt (K:W.Frag)(mg:Str→Option Value)(A:Ad):Prop where
 ZgR:mg "abs" = none
 ZgC:mg "all" = none
 ZaF:mg "len" = none
 Zd6:mg "sorted" = none
 Zga:mg "dict" = none
 Zgy:mg "max" = none
 Zfg:mg "list" = none
 Zbu:mg "range" = none
 Z95:mg "isinstance" = none
 Zdt:mg "ValueError" = none
 Zdm:∃ t,mg "MOST_RANKS" = some (.int 6 t)
 Zf2:∃ t,mg "LETTERS" = some (.str "abcdefghijklmnopqrstuvwxyz" t)
 ZcU:∃ t,mg "MOST_LETTERS" = some (.int 8 t)
 ZdK:∃ t,mg "MOST_SIDES" = some (.int 6 t)
 Zey:∃ t,mg "MOST_MEN" = some (.int 40 t)
 Zdv:∃ t,mg "MOST_DEEDS" = some (.int 120 t)
 Zex:∃ t,mg "LAST_DAY" = some (.int 1000000 t)
 Ze9:∃ t,mg "NO_NUMBER" = some (.int 0 t)
 Za9:mg "holder_of" = some (.ref A.Z9K)
 Z9Z:Fun K "holder_of" "holder_of" ZN A.Z9K A.ZbA
 Zac:Binds K A.ZbA ["man"] []
 Zc0:mg "need_alive" = some (.ref A.Zc3)
 ZaH:Fun K "need_alive" "need_alive" Yr A.Zc3 A.Zbi
 ZbS:Binds K A.Zbi ["man"] []
 Zco:mg "need_held" = some (.ref A.Zcw)
 Zb9:Fun K "need_held" "need_held" YO A.Zcw A.Zc1
 Zci:Binds K A.Zc1 ["man"] []
 ZfY:mg "take_man" = some (.ref A.Zay)
 Zd7:Fun K "take_man" "take_man" X5 A.Zay A.Zce
 Zew:Binds K A.Zce ["muster","day","deed"] []
 ZeU:mg "send_on_word" = some (.ref A.Z9M)
 ZaS:Fun K "send_on_word" "send_on_word" Yd A.Z9M A.ZaC
 ZcO:Binds K A.ZaC ["muster","day","deed"] []
 ZfO:mg "send_home" = some (.ref A.Z9V)
 ZcG:Fun K "send_home" "send_home" YJ A.Z9V A.Zc2
 ZdP:Binds K A.Zc2 ["muster","day","deed"] []
 ZfB:mg "give_rank" = some (.ref A.Zcc)
 ZfE:Fun K "give_rank" "give_rank" Xb A.Zcc A.ZdE
 ZfM:Binds K A.ZdE ["muster","day","deed"] []
 Zgg:mg "let_die" = some (.ref A.ZdA)
 Zgb:Fun K "let_die" "let_die" XL A.ZdA A.Zeq
 Zgd:Binds K A.Zeq ["muster","day","deed"] []
 Zg7:mg "exchange" = some (.ref A.ZcY)
 Zg2:Fun K "exchange" "exchange" Xr A.ZcY A.Ze5
 Zg6:Binds K A.Ze5 ["muster","day","deed"] []
 ZdJ:mg "do_deed" = some (.ref A.ZdD)
 Zc7:Fun K "do_deed" "do_deed" Xm A.ZdD A.Zd2
 ZdB:Binds K A.Zd2 ["muster","day","deed"] []
 Zea:mg "all_among" = some (.ref A.Zcp)
 ZcM:Fun K "all_among" "all_among" Yo A.Zcp A.Zbx
 Ze6:Binds K A.Zbx ["text","signs"] []
 Ze8:mg "good_name" = some (.ref A.Zch)
 Zcb:Fun K "good_name" "good_name" YM A.Zch A.ZbW
 ZdX:Binds K A.ZbW ["text"] []
 Zdu:mg "empty_page" = some (.ref A.ZbD)
 ZbM:Fun K "empty_page" "empty_page" Yw A.ZbD A.Zbb
 Zdr:Binds K A.Zbb [] []
 ZcF:mg "need_side" = some (.ref A.ZcH)
 Zb1:Fun K "need_side" "need_side" YI A.ZcH A.ZbK
 ZcC:Binds K A.ZbK ["page","name"] []
 Zet:mg "need_man" = some (.ref A.ZcW)
 ZcX:Fun K "need_man" "need_man" X4 A.ZcW A.ZcI
 Zez:Binds K A.ZcI ["page","name"] []
 ZdR:mg "need_rank" = some (.ref A.Zcg)
 Zcu:Fun K "need_rank" "need_rank" YU A.Zcg A.ZbX
 ZdN:Binds K A.ZbX ["rank"] []
 ZeH:mg "need_day" = some (.ref A.Zd8)
 ZcZ:Fun K "need_day" "need_day" X8 A.Zd8 A.Zcx
 ZeI:Binds K A.Zcx ["day"] []
 Zaq:mg "need_new_name" = some (.ref A.Zas)
 Za0:Fun K "need_new_name" "need_new_name" Y5 A.Zas A.Zam
 Zap:Binds K A.Zam ["name","table"] []
 Zb0:mg "need_room" = some (.ref A.Zcr)
 Zaa:Fun K "need_room" "need_room" YQ A.Zcr A.ZbP
 ZaW:Binds K A.ZbP ["many","most"] []
 ZdO:mg "need_deed" = some (.ref A.ZcE)
 Zcj:Fun K "need_deed" "need_deed" Yp A.ZcE A.ZbV
 Ze2:Binds K A.ZbV ["page","number"] []
 ZdC:mg "need_names" = some (.ref A.ZbH)
 ZbJ:Fun K "need_names" "need_names" Yq A.ZbH A.Zbm
 Zdx:Binds K A.Zbm ["page","deed"] []
 Zdj:mg "do_or_break" = some (.ref A.Zbd)
 Zbe:Fun K "do_or_break" "do_or_break" Yl A.Zbd A.ZaQ
 Zdf:Binds K A.ZaQ ["muster","number","day","deed"] []
 ZaU:mg "need_all_let" = some (.ref A.ZaN)
 Za5:Fun K "need_all_let" "need_all_let" Yb A.ZaN A.ZaG
 ZaP:Binds K A.ZaG ["page","told"] []
 Zc6:mg "place_of_deed" = some (.ref A.Zat)
 Zc8:Fun K "place_of_deed" "place_of_deed" Y4 A.Zat A.Zan
 Zca:Binds K A.Zan ["entry"] []
 Zbz:mg "with_deeds" = some (.ref A.ZbF)
 Zax:Fun K "with_deeds" "with_deeds" Yv A.ZbF A.Zbl
 ZbT:Binds K A.Zbl ["page","entries","next_number"] []
 ZdV:mg "with_side" = some (.ref A.ZcK)
 Zcm:Fun K "with_side" "with_side" YH A.ZcK A.ZbG
 ZdT:Binds K A.ZbG ["page","name"] []
 ZeF:mg "with_man" = some (.ref A.Zd9)
 Zd5:Fun K "with_man" "with_man" X3 A.Zd9 A.Zcy
 ZeA:Binds K A.Zcy ["page","name","side","rank"] []
 Ze1:mg "with_deed" = some (.ref A.Zcn)
 Zcs:Fun K "with_deed" "with_deed" YL A.Zcn A.ZbR
 ZdZ:Binds K A.ZbR ["page","number","day","deed"] []
 ZcN:mg "without_deed" = some (.ref A.ZaM)
 ZaO:Fun K "without_deed" "without_deed" ZX A.ZaM A.Zav
 ZcT:Binds K A.Zav ["page","number"] []
 Zgi:mg "_law_box" = some (.ref A.Zfp)
 Zfm:Fun K "_law_box" "_law_box" Jr A.Zfp A.ZeS
 Zg9:Binds K A.ZeS ["_law_script"] []
 Zej:mg "_law_mixed" = some (.ref A.Zep)
 Zd4:Fun K "_law_mixed" "_law_mixed" Xx A.Zep A.ZdI
 Zeh:Binds K A.ZdI ["_law_number","_law_turn"] []
 Z9X:mg "_law_take" = some (.ref A.ZeR)
 Z9Q:Fun K "_law_take" "_law_take" J8 A.ZeR A.Zek
 Z9W:Binds K A.Zek ["_law_box_here","_law_size"] []
 Zfr:mg "_law_named" = some (.ref A.Zen)
 Zem:Fun K "_law_named" "_law_named" Xf A.Zen A.Zdy
 Zfs:Binds K A.Zdy ["_law_box_here","_law_alike"] []
 ZeZ:mg "_law_called" = some (.ref A.Zc5)
 Zdq:Fun K "_law_called" "_law_called" Xn A.Zc5 A.Zbt
 Zf5:Binds K A.Zbt ["_law_e"] []
 Zbo:mg "_law_many_names" = some (.ref A.Zbk)
 Zaj:Fun K "_law_many_names" "_law_many_names" Y7 A.Zbk A.ZaK
 Zbg:Binds K A.ZaK ["_law_box_here","_law_many"] []
 ZeP:mg "_law_more" = some (.ref A.ZeW)
 ZdL:Fun K "_law_more" "_law_more" J7 A.ZeW A.Zeo
 ZeT:Binds K A.Zeo ["_law_book","_law_way","_law_name","_law_day"] []
 ZgS:mg "law" = some (.ref A.ZfX)
 Zgs:Fun K "law" "law" Jk A.ZfX A.Zfd
 ZgT:Binds K A.Zfd ["_law_script"] []
 Zg5:W.findIn K (.ref A.Z9o) "__init__" = some (some (.ref A.ZaA))
 ZfG:W.isFn K (.ref A.ZaA)=true
 ZeG:Fun K "__init__" "Man.__init__" X6 A.ZaA A.Zcz
 Zev:Binds K A.Zcz ["self","home","grade"] []
 Zfc:W.findIn K (.ref A.Z97) "__init__" = some (some (.ref A.Z9T))
 ZeM:W.isFn K (.ref A.Z9T)=true
 Zdg:Fun K "__init__" "Muster.__init__" Yk A.Z9T A.ZaR
 Zdh:Binds K A.ZaR ["self","man_table","cartel_table"] []
 ZfC:W.findIn K (.ref A.Z98) "__init__" = some (some (.ref A.Za8))
 Zfi:W.isFn K (.ref A.Za8)=true
 Ze7:Fun K "__init__" "Page.__init__" YV A.Za8 A.ZbL
 Zag:Binds K A.ZbL ["self","side_names","man_table","cartel_table","deed_list","next_number"] []
 Zf8:W.findIn K (.ref A.Z9d) "__init__" = some (some (.ref A.Zak))
 ZeL:W.isFn K (.ref A.Zak)=true
 Zf9:Fun K "__init__" "Breaks.__init__" YC A.Zak A.ZcS
 Zf6:Binds K A.ZcS ["self","number"] []
 ZfI:W.findIn K (.ref A.Z93) "__init__" = some (some (.ref A.Zah))
 Zfk:W.isFn K (.ref A.Zah)=true
 Ze3:Fun K "__init__" "Book.__init__" YD A.Zah A.ZbZ
 Zeb:Binds K A.ZbZ ["self"] []
 Z9N:W.findIn K (.ref A.Z93) "turn_to" = some (some (.ref A.Za7))
 Z9I:W.isFn K (.ref A.Za7)=true
 Z9A:Fun K "turn_to" "Book.turn_to" Yc A.Za7 A.Zao
 Z9O:Binds K A.Zao ["self","page"] []
 Zck:W.findIn K (.ref A.Z93) "side" = some (some (.ref A.ZaY))
 ZbC:W.isFn K (.ref A.ZaY)=true
 ZaZ:Fun K "side" "Book.side" YK A.ZaY A.ZbN
 ZcJ:Binds K A.ZbN ["self","name"] []
 ZaE:W.findIn K (.ref A.Z93) "man" = some (some (.ref A.Zbs))
 Zae:W.isFn K (.ref A.Zbs)=true
 Za6:Fun K "man" "Book.man" X7 A.Zbs A.Zcq
 Zau:Binds K A.Zcq ["self","name","side","rank"] []
 Zdd:W.findIn K (.ref A.Z93) "strike" = some (some (.ref A.Zal))
 ZcQ:W.isFn K (.ref A.Zal)=true
 Zbn:Fun K "strike" "Book.strike" Yj A.Zal A.ZaV
 Zdc:Binds K A.ZaV ["self","number"] []
 Zb7:W.findIn K (.ref A.Z93) "tell" = some (some (.ref A.Zba))
 Zar:W.isFn K (.ref A.Zba)=true
 Zai:Fun K "tell" "Book.tell" YE A.Zba A.ZbE
 Zb2:Binds K A.ZbE ["self","day","deed"] []
 ZaX:W.findIn K (.ref A.Z93) "take" = some (some (.ref A.Zb8))
 Zaz:W.isFn K (.ref A.Zb8)=true
 Zad:Fun K "take" "Book.take" YF A.Zb8 A.ZbB
 Zb3:Binds K A.ZbB ["self","day","man","side"] []
 ZcB:W.findIn K (.ref A.Z93) "word" = some (some (.ref A.Zb6))
 ZbY:W.isFn K (.ref A.Zb6)=true
 Zb4:Fun K "word" "Book.word" YS A.Zb6 A.ZbU
 ZcA:Binds K A.ZbU ["self","day","man"] []
 Ze4:W.findIn K (.ref A.Z93) "flee" = some (some (.ref A.Zb5))
 ZdH:W.isFn K (.ref A.Zb5)=true
 Zcl:Fun K "flee" "Book.flee" YT A.Zb5 A.ZbQ
 ZdU:Binds K A.ZbQ ["self","day","man"] []
 Za2:W.findIn K (.ref A.Z93) "sides" = some (some (.ref A.ZaJ))
 Z9U:W.isFn K (.ref A.ZaJ)=true
 Z9P:Fun K "sides" "Book.sides" Ys A.ZaJ A.Zbc
 Za4:Binds K A.Zbc ["self"] []
 Zes:W.findIn K (.ref A.Z93) "men" = some (some (.ref A.Zbr))
 Zed:W.isFn K (.ref A.Zbr)=true
 Zd3:Fun K "men" "Book.men" YB A.Zbr A.Zct
 ZeJ:Binds K A.Zct ["self"] []
 ZbI:W.findIn K (.ref A.Z93) "deeds" = some (some (.ref A.ZaI))
 Zbf:W.isFn K (.ref A.ZaI)=true
 ZaB:Fun K "deeds" "Book.deeds" Yx A.ZaI A.Zbh
 Zbv:Binds K A.Zbh ["self"] []
 Zda:mg "CartelError" = some (.ref A.Z92)
 Zde:W.excIn K A.Z92 vErr "ValueError.__new__" = true
 Zds:mg "BadName" = some (.ref A.Z9h)
 Zdw:W.excIn K A.Z9h vErr "ValueError.__new__" = true
 ZeO:mg "Taken" = some (.ref A.Z9u)
 ZeK:W.excIn K A.Z9u vErr "ValueError.__new__" = true
 ZfA:mg "Full" = some (.ref A.Z9B)
 Zff:W.excIn K A.Z9B vErr "ValueError.__new__" = true
 Zel:mg "NoSide" = some (.ref A.Z9p)
 Zef:W.excIn K A.Z9p vErr "ValueError.__new__" = true
 ZeN:mg "NoMan" = some (.ref A.Z9w)
 ZeQ:W.excIn K A.Z9w vErr "ValueError.__new__" = true
 Zdp:mg "BadRank" = some (.ref A.Z9j)
 Zdk:W.excIn K A.Z9j vErr "ValueError.__new__" = true
 Zgw:mg "Own" = some (.ref A.Za1)
 Zgz:W.excIn K A.Za1 vErr "ValueError.__new__" = true
 ZdY:mg "BadTariff" = some (.ref A.Z9c)
 Zec:W.excIn K A.Z9c vErr "ValueError.__new__" = true
 ZeB:mg "BadLimit" = some (.ref A.Z9f)
 ZeD:W.excIn K A.Z9f vErr "ValueError.__new__" = true
 Zeg:mg "BadDay" = some (.ref A.Z9q)
 Zei:W.excIn K A.Z9q vErr "ValueError.__new__" = true
 Zer:mg "NoCartel" = some (.ref A.Z9g)
 ZeC:W.excIn K A.Z9g vErr "ValueError.__new__" = true
 ZfT:mg "NoMen" = some (.ref A.Z9z)
 ZfR:W.excIn K A.Z9z vErr "ValueError.__new__" = true
 ZfW:mg "Twice" = some (.ref A.Z9x)
 ZfU:W.excIn K A.Z9x vErr "ValueError.__new__" = true
 Zgj:mg "Gone" = some (.ref A.Z9H)
 Zgm:W.excIn K A.Z9H vErr "ValueError.__new__" = true
 Zgk:mg "Held" = some (.ref A.Z9F)
 Zgh:W.excIn K A.Z9F vErr "ValueError.__new__" = true
 ZeX:mg "NotHeld" = some (.ref A.Z9m)
 Zf1:W.excIn K A.Z9m vErr "ValueError.__new__" = true
 Zf3:mg "OffRoll" = some (.ref A.Z9l)
 Zf4:W.excIn K A.Z9l vErr "ValueError.__new__" = true
 Zfu:mg "Uneven" = some (.ref A.Z9t)
 Zft:W.excIn K A.Z9t vErr "ValueError.__new__" = true
 Zfq:mg "NoDeed" = some (.ref A.Z9s)
 Zfn:W.excIn K A.Z9s vErr "ValueError.__new__" = true
 Zfj:mg "Breaks" = some (.ref A.Z9d)
 Zgx:mg "Man" = some (.ref A.Z9o)
 Zfz:mg "Muster" = some (.ref A.Z97)
 Zdn:mg "Page" = some (.ref A.Z98)
 Zgc:mg "Book" = some (.ref A.Z93)
 Zfe:mg "DOINGS" = some (.ref A.Z9e)
 Zfv:XI K A.Z9d A.Zak
 Z9S:Cls K A.Z9o
 Z9C:W.findIn K (.ref A.Z9o) "claims" = some none
 Zd0:W.findIn K (.ref A.Z9o) "dead" = some none
 ZdS:W.findIn K (.ref A.Z9o) "grade" = some none
 ZcV:W.findIn K (.ref A.Z9o) "home" = some none
 Zgf:Mk K A.Z9o A.ZaA
 Z9R:Cls K A.Z97
 Zbp:W.findIn K (.ref A.Z97) "balances" = some none
 Z9y:W.findIn K (.ref A.Z97) "roster" = some none
 Zbq:W.findIn K (.ref A.Z97) "treaties" = some none
 ZeY:Mk K A.Z97 A.Z9T
 Z96:Cls K A.Z98
 Z9n:W.findIn K (.ref A.Z98) "cartel_table" = some none
 Z9a:W.findIn K (.ref A.Z98) "deed_list" = some none
 Z99:W.findIn K (.ref A.Z98) "man_table" = some none
 Z9i:W.findIn K (.ref A.Z98) "next_number" = some none
 Z9b:W.findIn K (.ref A.Z98) "side_names" = some none
 ZcR:Mk K A.Z98 A.Za8
 Z94:Cls K A.Z93
 Zbj:W.findIn K (.ref A.Z93) "future" = some none
 Z9k:W.findIn K (.ref A.Z93) "page" = some none
 Zcv:W.findIn K (.ref A.Z93) "past" = some none
 ZfV:Mk K A.Z93 A.Zah
 Z9D:W.XD K
 Zgu:Z4h K [A.Z9h,A.Z9u,A.Z9B,A.Z9p,A.Z9w,A.Z9j,A.Za1,A.Z9c,A.Z9f,A.Z9q,A.Z9g,A.Z9z,A.Z9x,A.Z9H,A.Z9F,A.Z9m,A.Z9l,A.Z9t,A.Z9s,A.Z9d]=true
 Zgl:Z3V K A.Z92 [A.Z9h,A.Z9u,A.Z9B,A.Z9p,A.Z9w,A.Z9j,A.Za1,A.Z9c,A.Z9f,A.Z9q,A.Z9g,A.Z9z,A.Z9x,A.Z9H,A.Z9F,A.Z9m,A.Z9l,A.Z9t,A.Z9s,A.Z9d]=true
 Zgo:W.XS K A.Z9d "number"
 ZgP:W.mroIn K A.Z9h (.ref A.Z92)=some true
 ZgJ:W.mroIn K A.Z9u (.ref A.Z92)=some true
 ZgQ:W.mroIn K A.Z9B (.ref A.Z92)=some true
 ZgG:W.mroIn K A.Z9p (.ref A.Z92)=some true
 ZgH:W.mroIn K A.Z9w (.ref A.Z92)=some true
 ZgK:W.mroIn K A.Z9j (.ref A.Z92)=some true
 ZgM:W.mroIn K A.Za1 (.ref A.Z92)=some true
 ZgL:W.mroIn K A.Z9c (.ref A.Z92)=some true
 ZgO:W.mroIn K A.Z9f (.ref A.Z92)=some true
 ZgN:W.mroIn K A.Z9q (.ref A.Z92)=some true
 ZgA:W.mroIn K A.Z9g (.ref A.Z92)=some true
 Zgq:W.mroIn K A.Z9z (.ref A.Z92)=some true
 ZgB:W.mroIn K A.Z9x (.ref A.Z92)=some true
 ZgE:W.mroIn K A.Z9H (.ref A.Z92)=some true
 Zgp:W.mroIn K A.Z9F (.ref A.Z92)=some true
 Zgv:W.mroIn K A.Z9m (.ref A.Z92)=some true
 ZgF:W.mroIn K A.Z9l (.ref A.Z92)=some true
 ZgD:W.mroIn K A.Z9t (.ref A.Z92)=some true
 Zgt:W.mroIn K A.Z9s (.ref A.Z92)=some true
 Zgr:W.mroIn K A.Z9d (.ref A.Z92)=some true
noncomputable abbrev ZI (A:Ad):List (Str×Addr):=[("take",A.Zay),("word",A.Z9M),("free",A.Z9V),("flee",A.Z9V),("rank",A.Zcc),("die",A.ZdA),("swap",A.ZcY)]
noncomputable def BoxAt (H:Hp)(b l:Addr)(ns:List Int):Prop:=∃ (i left turn seed:Int),H b=some (.lst [.ref l,.int i,.int left,.int turn,.int seed])∧H l=some (.lst (ns.map V.int))∧ns.length≤63∧0≤i∧l≠b
noncomputable def Z7m:Sp:=λvs H Q _=>∃ n t,vs=[.int n,.int t]∧∀ r:Int,0≤r→Q (.int r) H
noncomputable def Z8z (K:W.Frag):Sp:=λvs H Q _=>∃ (a:Addr) (ns:List Int),vs=[.ref a]∧SqL K H a (ns.map V.int)∧ns.length≤63∧∀ (b l:Addr) (H':Hp),H b=none→H l=none→BoxAt H' b l ns→Same H H'→Q (.ref b) H'
noncomputable def Z86:Sp:=λvs H Q _=>∃ (b l:Addr) (ns:List Int) (m:Int),vs=[.ref b,.int m]∧BoxAt H b l ns∧0 < m∧m < 1073741824∧∀ (r:Int) (H':Hp),0≤r→r < m→BoxAt H' b l ns→Keep b H H'→(∀ c,H c=none→H' c=none)→Q (.int r) H'
theorem BoxAt.put {H:Hp}{b l p:Addr}{ns:List Int}{o:HO}(h:BoxAt H b l ns)(n1:p≠b)(n2:p≠l):BoxAt (upd H p o) b l ns:=by
 obtain⟨i,left,turn,seed,h1,h2,r⟩:=h;exact⟨i,left,turn,seed,by rw[Z2 (Ne.symm n1)];exact h1,by rw[Z2 (Ne.symm n2)];exact h2,r⟩
theorem BoxAt.b {H:Hp}{b l:Addr}{ns:List Int}(h:BoxAt H b l ns):∃ o,H b=some o:=by
 obtain⟨i,left,turn,seed,h1,_⟩:=h;exact⟨_,h1⟩
theorem BoxAt.l {H:Hp}{b l:Addr}{ns:List Int}(h:BoxAt H b l ns):∃ o,H l=some o:=by
 obtain⟨i,left,turn,seed,_,h1,_⟩:=h;exact⟨_,h1⟩
theorem BoxAt.new {H:Hp}{b l p:Addr}{ns:List Int}{o:HO}(h:BoxAt H b l ns)(n:H p=none):p≠b∧p≠l∧BoxAt (upd H p o) b l ns:=by
 obtain⟨o1,e1⟩:=h.b;obtain⟨o2,e2⟩:=h.l;have n1:=Ne.symm (Z6 e1 n);have n2:=Ne.symm (Z6 e2 n);exact⟨n1,n2,h.put n1 n2⟩
theorem JT {H0 H H':Hp}{b:Addr}(s:Same H0 H)(k:Keep b H H')(n:H0 b=none):Same H0 H':=λc o e=>k c o (s c o e) (Z6 e n)
theorem Jd {H0 H:Hp}{p:Addr}{o:HO}(s:Same H0 H)(n:H0 p=none):Same H0 (upd H p o):=λc u e=>by
 rw[Z2 (Z6 e n)];exact s c u e
theorem Z91 {t u:TS}{D:Ends}{σ:L2.St}{H:Hp}(M:L2.St→Hp→Prop)(YW:∀ σ' H',M σ' H'→u D σ' H')(now:∀ nx:L2.St→Hp→Prop,(∀ σ' H',M σ' H'→nx σ' H')→t { D with nx:=nx } σ H):Z2c t u D σ H:=now (u D) YW
section
variable {P:Program}{w:World}{K:W.Frag}{mg:Str→Option Value}{base:Heap}{A:Ad}
theorem Z4S (T:Txt K mg A):FnOk P w K mg base CX0 1 A.Zep A.ZdI ["_law_number","_law_turn"] Z7m:=by
 refine T.Zd4.ok Zf0 (λvs H Q E h=>?_) (λcdv A' outer s H vs Q E hr h=>?_)
 ·obtain⟨n,t,rfl,_⟩:=h;rfl
 ·obtain⟨n,t,rfl,k⟩:=h;refine⟨_,(Z8 (Zi (i:=2) Zf0.nd rfl (Or.inl rfl) (Zd Y9 (Zd ZE (Zd ZE (Zd Jy (pv 0) Z5) (Zd Jy (pv 1) Z5)) Z5) Z5))
   (Z7 (Zo (Zd Jw (Zd Y9 (Zd ZE (Zd ZE (Zd Jy (pv 2) (Zd ZE (Zd Y9 (pv 2) Z5) Z5)) (Zd Jy (pv 1) Z5)) (Zd Y9 (Zd Jw (pv 0) Z5) Z5)) Z5) Z5)))),?_⟩
  walk_at "r";refine k _ ?_;omega
theorem Z7k (T:Txt K mg A):FnOk P w K mg base CX0 1 A.Zfp A.ZeS ["_law_script"] (Z8z K):=by
 refine T.Zfm.ok ZdM (λvs H Q E h=>?_) (λcdv A' outer s H vs Q E hr h=>?_)
 ·obtain⟨a,ns,rfl,_⟩:=h;rfl
 ·obtain⟨a,ns,rfl,hS,hlen,k⟩:=h;refine⟨_,(Z8 (Zi (i:=1) ZdM.nd rfl (Or.inl rfl) Z5)
   (Z8 (XJ PassesOwn.never rfl (piL (K:=K) rfl (pv 0)) (Zu (i:=2) ZdM.nd rfl (Or.inl rfl)) (Z7 (Zi (i:=1) ZdM.nd rfl (Or.inl rfl) (Zd Y9 (Zd ZE (Zd ZE (Zd Jy (pv 1) Z5) (Zd Y9 (pv 2) Z5)) Z5) Z5))))
   (Z7 (Zo (ZL (Z0 (Z0g (Z6K (K:=K) rfl) rfl T.Zfg L2.boot_list (Z0 (pv 0) Z4)) (Z0 Z5 (Z0 Z5 (Z0 Z5 (Z0 (pv 1) Z4)))))))))),?_⟩
  walk_at "r";refine⟨_,rfl,a,rfl,⟨_,hS⟩,Z2l (K:=K) (a:=a) (xs:=ns.map V.int) (λi σ H2=>H2=H∧∃ (z:Int) (v:Option V),σ=[some (.ref a),some (.int z),v]) ⟨rfl,7,none,rfl⟩ (λi σ H2 _ ⟨e,_⟩=>by rw[e];exact hS) ?_ ?_⟩
  ·rintro i y σ H2 hi ⟨rfl,z,v,rfl⟩;obtain⟨c,rfl⟩:∃ c,y=V.int c:=by
    rw[List.getElem?_map] at hi;cases e:ns[i]? with
    | none=>rw[e] at hi;cases hi
    | some c=>rw[e] at hi;exact⟨c,(Option.some.inj hi).symm⟩
   walk_at "r";exact⟨rfl,_,_,rfl⟩
  ·rintro σ H2 ⟨rfl,z,v,rfl⟩;walk_at "r";refine⟨a,_,rfl,.inl hS,λl hl=>?_⟩;walk_at "r";refine⟨by show 5≤sizeLine;decide,λb hb=>?_⟩;have hbl:b≠l:=λe=>by rw[e,Z1] at hb;cases hb
   have hb0:H2 b=none:=by rw[Z2 hbl] at hb;exact hb
   refine k b l _ hb0 hl ⟨0,0,0,z,Z1,?_,hlen,Int.le_refl 0,Ne.symm hbl⟩ ((Same.new hl _).trans (Same.new hb _));rw[Z2 (Ne.symm hbl),Z1]
theorem Z2v (T:Txt K mg A):FnOk P w K mg base CX0 2 A.ZeR A.Zek ["_law_box_here","_law_size"] Z86:=by
 have Zfo:=@Z4S P w K mg base A T;refine T.Z9Q.ok Zee (λvs H Q E h=>?_) (λcdv A' outer s H vs Q E hr h=>?_)
 ·obtain⟨b,l,ns,m,rfl,_⟩:=h;rfl
 ·obtain⟨b,l,ns,m,rfl,⟨i,left,turn,seed,hb,hl,hn,hi,hlb⟩,hm0,hm1,k⟩:=h;refine⟨_,(Z8 (Z13 (Zd ZE (Zj (ixL (K:=K) rfl) (pv 0) Z5 (λ_ _=>rfl)) Z5) (Z0W (pv 0) Z5 JI))
   (Z8 (ZD (Zm Z8x (Zj (ixL (K:=K) rfl) (pv 0) Z5 (λ_ _=>rfl)) Z5 (Zs _)) (Z8 (Zi (i:=2) Zee.nd rfl (Or.inl rfl) (Zj (ixL (K:=K) rfl) (pv 0) Z5 (λ_ _=>rfl)))
   (Z8 (Z13 (Zd Jw (pv 2) (pv 1)) (Z0W (pv 0) Z5 JI))
   (Z7 (Zo (Zd Y9 (pv 2) (pv 1)))))) Zq)
   (Z8 (ZD (Zm Z6x (Zj (ixL (K:=K) rfl) (pv 0) Z5 (λ_ _=>rfl)) (Zh (Z05 (K:=K) rfl) rfl T.ZaF PySem.boot_len (Z0 (Zj (ixL (K:=K) rfl) (pv 0) Z5 (λ_ _=>rfl)) Z4)) (Zs _)) (Z7 (Zo (Zd Y9 (Zc Zfo (hr.mono (by decide)) rfl T.Zej T.Zd4.kp T.Zeh .nil Zg (Z0 (Zj (ixL (K:=K) rfl) (pv 0) Z5 (λ_ _=>rfl)) (Z0 (Zj (ixL (K:=K) rfl) (pv 0) Z5 (λ_ _=>rfl)) Z4))) (pv 1)))) Zq)
   (Z8 (Zi (i:=3) Zee.nd rfl (Or.inl rfl) (Zj (ixL (K:=K) rfl) (Zj (ixL (K:=K) rfl) (pv 0) Z5 (λ_ _=>rfl)) (Zj (ixL (K:=K) rfl) (pv 0) Z5 (λ_ _=>rfl)) (λ_ _=>rfl)))
   (Z8 (Z13 (Zd ZE (Zj (ixL (K:=K) rfl) (pv 0) Z5 (λ_ _=>rfl)) Z5) (Z0W (pv 0) Z5 JI))
   (Z8 (ZD (Zm Z6M (pv 3) (Zd Z2f Z5 Z5) (Zs _)) (Z7 (Zo (Zd Y9 (Zc Zfo (hr.mono (by decide)) rfl T.Zej T.Zd4.kp T.Zeh .nil Zg (Z0 (pv 3) (Z0 (Zj (ixL (K:=K) rfl) (pv 0) Z5 (λ_ _=>rfl)) Z4))) (pv 1)))) Zq)
   (Z8 (Z13 (Zd Jw (pv 3) (pv 1)) (Z0W (pv 0) Z5 JI))
   (Z7 (Zo (Zd Y9 (pv 3) (pv 1))))))))))),?_⟩
  have upn:∀ {H':Hp}{o:HO}{u:HO}{c:Addr},H' b=some u→H' c=none→upd H' b o c=none:=fun {H' o u c} e h=>by
   rw[Z2 (λz=>by rw[z,e] at h;cases h)];exact h
  have upl:∀ {H':Hp}{o:HO},H' l=some (.lst (ns.map V.int))→upd H' b o l=some (.lst (ns.map V.int)):=fun {H' o} h=>by rw[Z2 hlb];exact h
  walk_at "r";refine Zx (SqL.of hb) rfl ?_;walk_at "r";refine Z0k hb rfl ?_;walk_at "r";refine Zx (SqL.of Z1) rfl ?_;walk_at "r";refine Z5q (λc=>?_) (λc=>?_)
  ·walk_at "r";refine Zx (SqL.of Z1) rfl ?_;walk_at "r";refine Z0k Z1 rfl ?_;walk_at "r";refine k _ _ (Int.emod_nonneg _ (by omega)) (Int.emod_lt_of_pos _ hm0) ⟨i,_,_,seed,Z1,upl (upl hl),hn,hi,hlb⟩ (Keep.set.trans Keep.set) λc h=>upn Z1 (upn hb h)
  ·walk_at "r";refine Zx (SqL.of Z1) rfl ?_;walk_at "r";refine Zx (SqL.of Z1) rfl ?_;walk_at "r";refine⟨l,_,rfl,.inl (SqL.of (upl hl)),?_⟩;walk_at "r";refine Z5q (λc2=>?_) (λc2=>?_)
   ·walk_at "r";refine Zx (SqL.of Z1) rfl ?_;walk_at "r";refine Zx (SqL.of Z1) rfl ?_;walk_at "r";refine⟨_,_,rfl,λr hr0=>?_⟩;walk_at "r";refine k _ _ (Int.emod_nonneg _ (by omega)) (Int.emod_lt_of_pos _ hm0) ⟨i,_,_,seed,Z1,upl hl,hn,hi,hlb⟩ Keep.set λc h=>upn hb h
   ·have c2':¬ ((ns.map V.int).length:Int)≤i:=of_decide_eq_false (Bool.eq_false_iff.mpr c2);rw[List.length_map] at c2';have hk:i.toNat < ns.length:=by omega
    have hat:atI (ns.map V.int) i=some (.int ns[i.toNat]):=by
     have q:atI (ns.map V.int) ((i.toNat:Nat):Int)=some (.int ns[i.toNat]):=ZG (by rw[List.getElem?_map,List.getElem?_eq_getElem hk]<;>rfl);rw[show ((i.toNat:Nat):Int)=i by omega] at q;exact q
    walk_at "r";refine Zx (SqL.of Z1) rfl ?_;walk_at "r";refine Zx (SqL.of Z1) rfl ?_;refine Zx (SqL.of (upl hl)) hat ?_;walk_at "r";refine Zx (SqL.of Z1) rfl ?_;walk_at "r";refine Z0k Z1 rfl ?_;walk_at "r";refine Z5q (λc3=>?_) (λc3=>?_)
    ·walk_at "r";refine Zx (SqL.of Z1) rfl ?_;walk_at "r";refine⟨_,_,rfl,λr hr0=>?_⟩;walk_at "r";refine k _ _ (Int.emod_nonneg _ (by omega)) (Int.emod_lt_of_pos _ hm0) ⟨_,_,_,seed,Z1,upl (upl hl),hn,by omega,hlb⟩ (Keep.set.trans Keep.set) λc h=>upn Z1 (upn hb h)
    ·walk_at "r";refine Z0k Z1 rfl ?_;walk_at "r";refine k _ _ (Int.emod_nonneg _ (by omega)) (Int.emod_lt_of_pos _ hm0) ⟨_,_,_,seed,Z1,upl (upl (upl hl)),hn,by omega,hlb⟩ (Keep.set.trans (Keep.set.trans Keep.set)) λc h=>upn Z1 (upn Z1 (upn hb h))
end
structure Ms where
 home:Str
 grade:Int
 dead:Bool
 cl:Option (Str×Int×Bool)
noncomputable abbrev Z47 (m:Ms)(c:Addr):List (Str×V):=[("home",.str m.home),("grade",.int m.grade),("dead",.bl m.dead),("claims",.ref c)]
noncomputable def ClAt (H:Hp)(c:Addr):Option (Str×Int×Bool)→Prop
 | none=>H c=some (.dK [])
 | some q=>∃ t,H c=some (.dK [((Sum.inr q.1:Key),.ref t)])∧H t=some (.tup [.int q.2.1,.bl q.2.2])
noncomputable def ManAt (A:Ad)(H:Hp)(a c:Addr)(m:Ms):Prop:=(∃ d,H a=some (.ins A.Z9o d (Z47 m c)))∧ClAt H c m.cl
noncomputable def Yi (m:Ms):Str:=match m.cl with
 | some (s,_,false)=>s
 | _=>""
theorem ClAt.same {H H':Hp}{c:Addr}{q:Option (Str×Int×Bool)}(h:ClAt H c q)(s:Same H H'):ClAt H' c q:=by
 cases q with
 | none=>exact s _ _ h
 | some q=>obtain⟨t,a,b⟩:=h;exact⟨t,s _ _ a,s _ _ b⟩
theorem ManAt.same {A:Ad}{H H':Hp}{a c:Addr}{m:Ms}(h:ManAt A H a c m)(s:Same H H'):ManAt A H' a c m:=let ⟨⟨d,x⟩,y⟩:=h;⟨⟨d,s _ _ x⟩,y.same s⟩
noncomputable def Z4y (A:Ad):Sp:=λvs H Q _=>∃ (x dx:Addr) (h:Str) (g:Int),vs=[.ref x,.str h,.int g]∧H x=some (.ins A.Z9o dx [])∧∀ (c:Addr) (H':Hp),H c=none→c≠x→(∀ d o,H d=some o→d≠x→H' d=some o)→H' x=some (.ins A.Z9o dx (Z47 ⟨h,g,false,none⟩ c))→H' c=some (.dK [])→Q .non H'
noncomputable def Z68 (A:Ad):Sp:=λvs H Q _=>∃ (a c:Addr) (m:Ms),vs=[.ref a]∧ManAt A H a c m∧∀ H',Same H H'→Q (.str (Yi m)) H'
section
variable {P:Program}{w:World}{K:W.Frag}{mg:Str→Option Value}{base:Heap}{A:Ad}
theorem Z32 (T:Txt K mg A):FnOk P w K mg base CX0 1 A.ZaA A.Zcz ["self","home","grade"] (Z4y A):=by
 refine T.ZeG.ok Z3c (λvs H Q E h=>?_) (λcdv A' outer s H vs Q E hr h=>?_)
 ·obtain⟨x,dx,h,g,rfl,_⟩:=h;rfl
 ·obtain⟨x,dx,h,g,rfl,hx,k⟩:=h;refine⟨_,(Z8 (Y0 (pv 0) (pv 1) rfl)
   (Z8 (Y0 (pv 0) (pv 2) rfl)
   (Z8 (Y0 (pv 0) XE rfl)
   (Z7 (Y0 (pv 0) Z0w rfl))))),?_⟩
  walk_at "r";refine⟨x,_,dx,_,rfl,hx,T.Z9S,T.ZcV,by decide,?_⟩;walk_at "r";refine⟨x,_,dx,_,rfl,Z1,T.Z9S,T.ZdS,(show 1 < 1000 by decide),?_⟩;walk_at "r";refine⟨x,_,dx,_,rfl,Z1,T.Z9S,T.Zd0,(show 2 < 1000 by decide),?_⟩;walk_at "r";rw[Y3,Y3];intro c hc;have ne:x≠c:=Z6 Z1 hc;have hc0:H c=none:=by rw[Z2 (Ne.symm ne)] at hc;exact hc
  walk_at "r";have e1:(upd (upd H x (.ins A.Z9o dx [("home",.str h),("grade",.int g),("dead",.bl false)])) c (.dK [])) x=some (.ins A.Z9o dx [("home",.str h),("grade",.int g),("dead",.bl false)]):=by rw[Z2 ne,Z1]
  refine⟨x,_,dx,_,rfl,e1,T.Z9S,T.Z9C,(show 3 < 1000 by decide),?_⟩;walk_at "r";refine k c _ hc0 (Ne.symm ne) (λd o e nd=>?_) Z1 ?_
  ·rw[Z2 nd,Z2 (Z6 e hc0),Z2 nd];exact e
  ·rw[Z2 (Ne.symm ne),Z1]
theorem Xq (T:Txt K mg A):FnOk P w K mg base CX0 1 A.Z9K A.ZbA ["man"] (Z68 A):=by
 refine T.Z9Z.ok ZbO (λvs H Q E h=>?_) (λcdv A' outer s H vs Q E hr h=>?_)
 ·obtain⟨a,c,m,rfl,_⟩:=h;rfl
 ·obtain⟨a,c,m,rfl,⟨⟨d,h1⟩,h2⟩,k⟩:=h;refine⟨_,(Z8 (Z3r (XJ PassesOwn.never rfl (piD (Z0z (Ze (pv 0) rfl))) (pgT (K:=K) (n:=2) rfl rfl (Y8 (Zu (i:=1) ZbO.nd rfl (Or.inl rfl)) (Y8 (Zu (i:=2) ZbO.nd rfl (Or.inl rfl)) Jz))) (Z7 (ZD (JW (Z15 (Zj (ixT (K:=K) rfl) (pv 2) Z5 (λ_ _=>rfl)))) (Z7 (Zo (pv 1))) Zq))))
   (Z7 (Zo Zb))),?_⟩
  walk_at "r";have go:∀ kvs:List (Key×V),H c=some (.dK kvs)→(∀ i kk x,kvs[i]? = some (kk,x)→i=0∧∃ q t,m.cl=some q∧kk=.inr q.1∧x=.ref t∧H t=some (.tup [.int q.2.1,.bl q.2.2]))→(kvs=[]→m.cl=none)→kvs.length≤1→∃ R,R=()∧Z88
   (Z5k (Xs CX0 P w K mg base Xa "holder_of" (Z3 ZN) A.Z9K cdv A' outer s H E).nox (Z4E (Z5p (Xs CX0 P w K mg base Xa "holder_of" (Z3 ZN) A.Z9K cdv A' outer s H E).K (Z0C 0) "claims")))
   (Z6m K 2 (Z4k (XF 1) (Z4k (XF 2) Z7z))) (Z62 (Z6b (tB (tOp (Z66 K) (Z0C 2) (tC (V.int 1))))) (Z3I (Z0C 1)) Z0i)
   (Z6u (Xs CX0 P w K mg base Xa "holder_of" (Z3 ZN) A.Z9K cdv A' outer s H E).nox { nx:=Z3I (tC (V.str "")) { nx:=λx H'=>Q V.non H',rt:=Q },rt:=Q }) (L2.start Xa [V.ref a]) H:=λkvs hc hk h0 hl=>by
   refine⟨(),rfl,?_⟩;refine⟨_,rfl,a,_,_,_,_,rfl,h1,T.Z9S,T.Z9C,rfl,c,kvs,rfl,Rd.of hc,λv hv=>?_⟩;have sv:=Same.new hv (Jj v c);refine⟨v,c,kvs,rfl,Z1,.inl ⟨sv _ _ hc,λo nf=>?_⟩⟩;have thaw:∀ H2:Hp,(∀ d o2,H d=some o2→d≠c→H2 d=some o2)→H2 c=some (.frz o (.dK kvs))→∃ H3,Th (Xs CX0 P w K mg base Xa "holder_of" (Z3 ZN) A.Z9K cdv A' outer s H E).nox H2 H3∧Same H H3:=λH2 kp hz=>by
    refine⟨_,.inr ⟨c,o,kvs,nf,hz,rfl⟩,λd o2 e=>?_⟩
    by_cases hd:d=c
    ·subst hd;rw[hc] at e;cases e;exact Z1
    ·rw[Z2 hd];exact kp d o2 e hd
   refine Z1x (λi σ2 H2=>(∀ d o2,H d=some o2→d≠c→H2 d=some o2)∧H2 c=some (.frz o (.dK kvs))∧(0 < i→∃ q,m.cl=some q∧q.2.2=true)∧∃ u1 u2,σ2=[some (.ref a),u1,u2]) ⟨λd o2 e ne=>?_,Z1,λz=>absurd z (Nat.lt_irrefl _),none,none,rfl⟩ (λi σ2 H2 _ q=>q.2.1) ?_ ?_
   ·rw[Z2 ne];exact sv _ _ e
   ·rintro i kk x p σ2 H2 ei ⟨kp,hz,hw,u1,u2,rfl⟩ hp;obtain⟨rfl,q,t,eq,rfl,rfl,et⟩:=hk i kk x ei;have sp:=Same.new hp (HO.tup [kV (.inr q.1),V.ref t]);refine⟨p,_,rfl,SqT.of Z1,rfl,_,[V.ref t],rfl,_,[],rfl,rfl,?_⟩;walk_at "r";have et2:=sp _ _ (kp _ _ et (Zk et hc (by simp)));refine⟨t,_,1,_,rfl,rfl,SqT.of et2,rfl,?_⟩;walk_at "r";cases e:q.2.2 with
    | false=>
      refine Y1 rfl ?_;walk_at "r";obtain⟨H3,th,sm⟩:=thaw _ (λd o2 e2 nd=>sp _ _ (kp d o2 e2 nd)) (sp _ _ hz);refine⟨H3,th,?_⟩;have:Yi m=q.1:=by
       unfold Yi;rw[eq];obtain⟨q1,q2,q3⟩:=q;dsimp only at e;subst e;rfl
      rw[←this];exact k H3 sm
    | true=>
      refine Zt (by decide) ?_;walk_at "r";exact⟨λd o2 e2 nd=>sp _ _ (kp d o2 e2 nd),sp _ _ hz,λ_=>⟨q,eq,e⟩,_,_,rfl⟩
   ·rintro σ2 H2 ⟨kp,hz,hw,u1,u2,rfl⟩;obtain⟨H3,th,sm⟩:=thaw _ kp hz;refine⟨H3,th,?_⟩;walk_at "r";have:Yi m="":=by
     unfold Yi;cases e:m.cl with
     | none=>rfl
     | some q=>
       obtain⟨q1,q2,q3⟩:=q;have h3:0 < kvs.length:=by
        cases kvs with
        | nil=>rw[h0 rfl] at e;cases e
        | cons _ _=>simp
       obtain⟨q',e1,e2⟩:=hw h3;rw[e] at e1;cases e1;dsimp only at e2;subst e2;rfl
    rw[←this];exact k H3 sm
  cases e:m.cl with
  | none=>
    rw[e] at h2;obtain⟨_,_,g⟩:=go [] h2 (λi kk x z=>by simp at z) (λ_=>e) (by simp);exact g
  | some q=>
    rw[e] at h2;obtain⟨t,h3,h4⟩:=h2;obtain⟨_,_,g⟩:=go _ h3 (λi kk x z=>by
     match i,z with
     | 0,z=>
       obtain⟨rfl,rfl⟩:Sum.inr q.1=kk∧V.ref t=x:=by simpa using z
       exact⟨rfl,q,t,e,rfl,rfl,h4⟩) (λz=>by simp at z) (by simp)
    exact g
end
noncomputable abbrev Ja:=List (Str×Ms)
noncomputable def YX (men:Ja)(ps:List (Addr×Addr)):List (Key×V):=List.zipWith (λm p=>((Sum.inr m.1:Key),V.ref p.1)) men ps
structure MusterAt (A:Ad)(B H:Hp)(mu ct:Addr)(men:Ja)(ps:List (Addr×Addr))(bal:List (List Key×V)):Prop where
 at':∃ dm ro ba,H mu=some (.ins A.Z97 dm [("roster",.ref ro),("treaties",.ref ct),("balances",.ref ba)])∧H ro=some (.dK (YX men ps))∧H ba=some (.dT bal)∧B ba=none∧∀ p∈ps,p.2≠ro
 len:ps.length=men.length
 man:∀ (i:Nat) (m:Str×Ms) (p:Addr×Addr),men[i]? = some m→ps[i]? = some p→ManAt A H p.1 p.2 m.2
 same:Same B H
 fresh:∀ p∈ps,B p.1=none∧B p.2=none
 nd1:(ps.map (·.1)).Nodup
 nd2:(ps.map (·.2)).Nodup
 names:(men.map (·.1)).Nodup
theorem Z5X {men:Ja}{ps:List (Addr×Addr)}{i:Nat}{m:Str×Ms}{p:Addr×Addr}(e:men[i]? = some m)(f:ps[i]? = some p):(YX men ps)[i]? = some ((Sum.inr m.1:Key),V.ref p.1):=by
 unfold YX;rw[List.getElem?_zipWith,e,f]
theorem Z6O {kvs:List (Key×V)}:∀ {i:Nat}{k:Key}{v:V},kvs[i]? = some (k,v)→(kvs.map (·.1)).Nodup→ZP kvs k=some v:=by
 induction kvs with
 | nil=>intro i k v e;simp at e
 | cons a r ih=>
   intro i k v e nd
   match i,e with
   | 0,e=>
     obtain rfl:a=(k,v):=by simpa using e
     simp[ZP]
   | i + 1,e=>
     have e2:r[i]? = some (k,v):=by simpa using e
     have nd2:=List.nodup_cons.mp nd;have ne:¬ a.1=k:=λz=>nd2.1 (by show a.1∈_;rw[z];exact List.mem_map.mpr ⟨(k,v),List.mem_of_getElem? e2,rfl⟩);have:=ih e2 nd2.2;unfold ZP at this ⊢;rw[List.find?_cons_of_neg (by simpa using ne)];exact this
theorem Z1A {men:Ja}{ps:List (Addr×Addr)}(h:ps.length=men.length):(YX men ps).map (·.1)=men.map λm=>(Sum.inr m.1:Key):=by
 unfold YX
 induction men generalizing ps with
 | nil=>simp
 | cons m r ih=>
   cases ps with
   | nil=>simp at h
   | cons p q=>
     rw[List.zipWith_cons_cons,List.map_cons,List.map_cons,ih (by simpa using h)]
theorem MusterAt.get {A:Ad}{B H:Hp}{mu ct ro:Addr}{men:Ja}{ps:List (Addr×Addr)}{bal:List (List Key×V)}(M:MusterAt A B H mu ct men ps bal){i:Nat}{m:Str×Ms}{p:Addr×Addr}(e:men[i]? = some m)(f:ps[i]? = some p)(hr:H ro=some (.dK (YX men ps))):DGet H ro (.str m.1) (some (.ref p.1)):=by
 have g:=DGet.k (k:=.inr m.1) hr;rw[Z6O (Z5X e f) (by
  rw[Z1A M.len,show (men.map λm=>(Sum.inr m.1:Key))=(men.map (·.1)).map Sum.inr by rw[List.map_map];rfl];exact List.Pairwise.map _ (λa b n z=>n (Sum.inr.inj z)) M.names)] at g
 exact g
theorem Z1C {A:Ad}{H:Hp}{a mu c d dm:Addr}{m:Ms}{fs:List (Str×V)}(h:H a=some (.ins A.Z9o d (Z47 m c)))(hm:H mu=some (.ins A.Z97 dm fs))(l:fs.length≠4):mu≠a:=Zk hm h λe=>by
 injection e with _ _ e
 rw[e] at l;exact l rfl
theorem YZ {α:Type}{l:List α}(nd:l.Nodup){i j:Nat}{a:α}(h1:l[i]? = some a)(h2:l[j]? = some a):i=j:=by
 obtain⟨x,e1⟩:=List.getElem?_eq_some_iff.mp h1;obtain⟨y,e2⟩:=List.getElem?_eq_some_iff.mp h2;have pw:=List.pairwise_iff_getElem.mp nd
 rcases Nat.lt_trichotomy i j with z|z|z
 ·exact absurd (e1.trans e2.symm) (pw i j x y z)
 ·exact z
 ·exact absurd (e2.trans e1.symm) (pw j i y x z)
theorem Z2o {l:List Addr}(h:∀ (j k:Nat) (a:Addr),l[j]? = some a→l[k]? = some a→j=k):l.Nodup:=List.pairwise_iff_getElem.mpr λi j hi hj ij z=>absurd (h i j l[i] (by simp[hi]) (by rw[z];simp[hj])) (Nat.ne_of_lt ij)
theorem MusterAt.put {A:Ad}{B H H':Hp}{mu ct:Addr}{men:Ja}{ps:List (Addr×Addr)}{bal:List (List Key×V)}(M:MusterAt A B H mu ct men ps bal){i:Nat}{m:Str×Ms}{p:Addr×Addr}(e:men[i]? = some m)(f:ps[i]? = some p){m':Ms}{c':Addr}
 (kp:∀ d o,H d=some o→d≠p.1→d≠p.2→H' d=some o) (mn:ManAt A H' p.1 c' m') (hc:c'=p.2∨H c'=none):MusterAt A B H' mu ct (men.set i (m.1,m')) (ps.set i (p.1,c')) bal:=by
 obtain⟨dm,ro,ba,h1,h2,h3,h4,h5⟩:=M.at';obtain⟨⟨d,g1⟩,g2⟩:=M.man i m p e f;have pm:p∈ps:=List.mem_of_getElem? f;obtain⟨f1,f2⟩:=M.fresh p pm;obtain⟨kv,hk⟩:∃ kv,H p.2=some (.dK kv):=by
  cases z:m.2.cl with
  | none=>rw[z] at g2;exact⟨_,g2⟩
  | some q=>rw[z] at g2;obtain⟨t,z1,_⟩:=g2;exact⟨_,z1⟩
 have li:i < ps.length:=(List.getElem?_eq_some_iff.mp f).1;have lm:i < men.length:=(List.getElem?_eq_some_iff.mp e).1;have cfresh:B c'=none∧c'≠ro∧∀ j q,j≠i→ps[j]? = some q→q.2≠c':=by
  rcases hc with rfl|hc
  ·exact⟨f2,h5 p pm,λj q hj ej z=>hj (YZ M.nd2 (a:=p.2) (by rw[List.getElem?_map,ej];simpa using z) (by rw[List.getElem?_map,f];rfl))⟩
  ·refine⟨?_,λz=>(by rw[z,h2] at hc;cases hc),λj q hj ej z=>?_⟩
   ·cases z:B c' with
    | none=>rfl
    | some o=>rw[M.same _ _ z] at hc;cases hc
   ·have lj:j < men.length:=by rw[←M.len];exact (List.getElem?_eq_some_iff.mp ej).1
    obtain⟨_,gj⟩:=M.man j men[j] q (by simp[lj]) ej;rw[z] at gj;cases y:men[j].2.cl with
    | none=>rw[y] at gj;rw[show H c'=_ from gj] at hc;cases hc
    | some q2=>rw[y] at gj;obtain⟨t,y1,_⟩:=gj;rw[y1] at hc;cases hc
 have er:YX (men.set i (m.1,m')) (ps.set i (p.1,c'))=YX men ps:=by
  unfold YX;refine List.ext_getElem? λj=>?_;rw[List.getElem?_zipWith,List.getElem?_zipWith]
  by_cases hj:i=j
  ·subst hj;rw[List.getElem?_set_self lm,List.getElem?_set_self li,e,f]
  ·rw[List.getElem?_set_ne hj,List.getElem?_set_ne hj]
 refine⟨⟨dm,ro,ba,kp _ _ h1 (Z1C g1 h1 (by simp)) (Zk h1 hk (by simp)),?_,kp _ _ h3 (Zk h3 g1 (by simp)) (Zk h3 hk (by simp)),h4,λq hq=>?_⟩,by simp[M.len],λj mj q ej fj=>?_,λd o z=>?_,λq hq=>?_,?_,?_,?_⟩
 ·rw[er];exact kp _ _ h2 (Zk h2 g1 (by simp)) (Ne.symm (h5 p pm))
 ·rcases List.mem_or_eq_of_mem_set hq with z|rfl
  ·exact h5 q z
  ·exact cfresh.2.1
 ·by_cases hj:i=j
  ·subst hj;rw[List.getElem?_set_self lm] at ej;rw[List.getElem?_set_self li] at fj;cases ej;cases fj;exact mn
  ·rw[List.getElem?_set_ne hj] at ej fj;obtain⟨⟨dj,a1⟩,a2⟩:=M.man j mj q ej fj;have n1:q.1≠p.1:=λz=>hj (YZ M.nd1 (a:=p.1) (by rw[List.getElem?_map,f];rfl) (by rw[List.getElem?_map,fj];simpa using z));have n2:q.2≠p.2:=λz=>hj (YZ M.nd2 (a:=p.2) (by rw[List.getElem?_map,f];rfl) (by rw[List.getElem?_map,fj];simpa using z));refine⟨⟨dj,kp _ _ a1 n1 (Zk a1 hk (by simp))⟩,?_⟩;cases y:mj.2.cl with
   | none=>
     rw[y] at a2;exact kp _ _ a2 (Zk a2 g1 (by simp)) n2
   | some q2=>
     rw[y] at a2;obtain⟨t,y1,y2⟩:=a2;exact⟨t,kp _ _ y1 (Zk y1 g1 (by simp)) n2,kp _ _ y2 (Zk y2 g1 (by simp)) (Zk y2 hk (by simp))⟩
 ·exact kp _ _ (M.same _ _ z) (Z6 z f1) (Z6 z f2)
 ·rcases List.mem_or_eq_of_mem_set hq with z|rfl
  ·exact M.fresh q z
  ·exact⟨f1,cfresh.1⟩
 ·have:(ps.set i (p.1,c')).map (·.1)=ps.map (·.1):=by
   rw[List.map_set];refine List.ext_getElem? λj=>?_
   by_cases hj:i=j
   ·subst hj;rw[List.getElem?_set_self (by simpa using li),List.getElem?_map,f];rfl
   ·rw[List.getElem?_set_ne hj]
  rw[this];exact M.nd1
 ·rw[List.map_set];refine Z2o λj k a z1 z2=>?_
  by_cases hj:i=j
  ·by_cases hk2:i=k
   ·omega
   ·subst hj;rw[List.getElem?_set_self (by simpa using li)] at z1;rw[List.getElem?_set_ne hk2,List.getElem?_map] at z2;obtain⟨q,y1,y2⟩:=Option.map_eq_some_iff.mp z2;exact absurd (y2.trans (Option.some.inj z1).symm) (cfresh.2.2 k q (Ne.symm hk2) y1)
  ·rw[List.getElem?_set_ne hj] at z1
   by_cases hk2:i=k
   ·subst hk2;rw[List.getElem?_set_self (by simpa using li)] at z2;rw[List.getElem?_map] at z1;obtain⟨q,y1,y2⟩:=Option.map_eq_some_iff.mp z1;exact absurd (y2.trans (Option.some.inj z2).symm) (cfresh.2.2 j q (Ne.symm hj) y1)
   ·rw[List.getElem?_set_ne hk2] at z2;exact YZ M.nd2 z1 z2
 ·have:(men.set i (m.1,m')).map (·.1)=men.map (·.1):=by
   rw[List.map_set];refine List.ext_getElem? λj=>?_
   by_cases hj:i=j
   ·subst hj;rw[List.getElem?_set_self (by simpa using lm),List.getElem?_map,e];rfl
   ·rw[List.getElem?_set_ne hj]
  rw[this];exact M.names
inductive Deed
 | take (m s:Str)
 | word (m:Str)
 | flee (m:Str)
noncomputable def DeedAt (H:Hp)(dd:Addr):Deed→Prop
 | .take m s=>H dd=some (.tup [.str "take",.str m,.str s])
 | .word m=>H dd=some (.tup [.str "word",.str m])
 | .flee m=>H dd=some (.tup [.str "flee",.str m])
theorem DeedAt.same {H H':Hp}{dd:Addr}{d:Deed}(h:DeedAt H dd d)(s:Same H H'):DeedAt H' dd d:=by
 cases d with
 | take m x=>exact s _ _ h
 | word m=>exact s _ _ h
 | flee m=>exact s _ _ h
inductive StepM (day:Int)(m:Ms):Deed→Ms→Prop
 | take {nm sd:Str}:m.home≠sd→Yi m=""→(m.cl=none∨∃ d,m.cl=some (sd,d,true))→StepM day m (.take nm sd) { m with cl:=some (sd,day,false) }
 | word {nm sd:Str}{d0:Int}:m.cl=some (sd,d0,false)→sd≠""→StepM day m (.word nm) { m with cl:=some (sd,d0,true) }
 | flee {nm sd:Str}{d0:Int}:m.cl=some (sd,d0,false)→sd≠""→StepM day m (.flee nm) { m with cl:=none }
noncomputable def ZQ:Deed→Str
 | .take m _=>m
 | .word m=>m
 | .flee m=>m
noncomputable def Z30 (A:Ad):Sp:=λvs H Q _=>∃ (a c:Addr) (m:Ms),vs=[.ref a]∧ManAt A H a c m∧m.dead=false∧Q .non H
noncomputable def Z4j (A:Ad):Sp:=λvs H Q _=>∃ (a c:Addr) (m:Ms),vs=[.ref a]∧ManAt A H a c m∧m.dead=false∧Yi m≠""∧∀ H',Same H H'→Q .non H'
noncomputable def Z1Y (A:Ad)(ok:Deed→Prop):Sp:=λvs H Q _=>∃ (B:Hp) (mu ct dd:Addr) (men:Ja) (ps:List (Addr×Addr)) (bal:List (List Key×V)) (day:Int) (i:Nat) (nm:Str) (m m':Ms) (d:Deed),vs=[.ref mu,.int day,.ref dd]∧ok d∧ZQ d=nm∧MusterAt A B H mu ct men ps bal∧DeedAt H dd d∧men[i]? = some (nm,m)∧m.dead=false∧StepM day m d m'∧
 ∀ H' ps',MusterAt A B H' mu ct (men.set i (nm,m')) ps' bal→Q .non H'
section
variable {P:Program}{w:World}{K:W.Frag}{mg:Str→Option Value}{base:Heap}{A:Ad}
theorem JN (T:Txt K mg A):FnOk P w K mg base CX0 1 A.Zc3 A.Zbi ["man"] (Z30 A):=by
 refine T.ZaH.ok Z1S (λvs H Q E h=>?_) (λcdv A' outer s H vs Q E hr h=>?_)
 ·obtain⟨a,c,m,rfl,_⟩:=h;rfl
 ·obtain⟨a,c,m,rfl,⟨⟨d,h1⟩,h2⟩,hd,k⟩:=h;refine⟨_,(Z7 (ZD (Z15 (Ze (pv 0) rfl)) (Z7 Yn) Zq)),?_⟩;walk_at "r";refine⟨a,_,_,_,_,rfl,h1,T.Z9S,T.Zd0,rfl,?_⟩;walk_at "r";refine Zt (by rw[hd];decide) ?_;walk_at "r";exact k
theorem Z0a (T:Txt K mg A):FnOk P w K mg base CX0 2 A.Zcw A.Zc1 ["man"] (Z4j A):=by
 have Zby:=@JN P w K mg base A T;have Z9J:=@Xq P w K mg base A T;refine T.Zb9.ok Z2r (λvs H Q E h=>?_) (λcdv A' outer s H vs Q E hr h=>?_)
 ·obtain⟨a,c,m,rfl,_⟩:=h;rfl
 ·obtain⟨a,c,m,rfl,hm,hdead,hh,k⟩:=h;refine⟨_,(Z8 (Zl (Zc Zby (hr.mono (by decide)) rfl T.Zc0 T.ZaH.kp T.ZbS .nil Zg (Z0 (pv 0) Z4)))
   (Z7 (ZD (Zm Yz (Zc Z9J (hr.mono (by decide)) rfl T.Za9 T.Z9Z.kp T.Zac .nil Zg (Z0 (pv 0) Z4)) Zb (Zs _)) (Z7 Yn) Zq))),?_⟩
  walk_at "r";refine⟨a,c,m,rfl,hm,hdead,?_⟩;walk_at "r";refine⟨a,c,m,rfl,hm,λH1 s1=>?_⟩;walk_at "r";refine⟨rfl,?_⟩;rw[Y2];walk_at "r";refine Zt (λz=>hh (beq_iff_eq.mp z)) ?_;walk_at "r";exact k H1 s1
theorem Z35 (T:Txt K mg A):FnOk P w K mg base CX0 2 A.Zay A.Zce ["muster","day","deed"] (Z1Y A λd=>∃ m s,d=.take m s):=by
 have Zby:=@JN P w K mg base A T;have Z9J:=@Xq P w K mg base A T;refine T.Zd7.ok ZcD (λvs H Q E h=>?_) (λcdv A' outer s H vs Q E hr h=>?_)
 ·obtain⟨B,mu,ct,dd,men,ps,bal,day,i,nm,m,m',d,rfl,_⟩:=h;rfl
 ·obtain⟨B,mu,ct,dd,men,ps,bal,day,i,nm,m,m',d,rfl,⟨nm',sd,rfl⟩,rfl,M,hd,em,hdead,st,k⟩:=h
  change men[i]? = some (nm',m) at em
  change ∀ H' ps',MusterAt A B H' mu ct (men.set i (nm',m')) ps' bal→Q .non H' at k
  obtain⟨⟨ho,hh,hcl⟩,rfl⟩:(m.home≠sd∧Yi m=""∧(m.cl=none∨∃ d,m.cl=some (sd,d,true)))∧m' = { m with cl:=some (sd,day,false) }:=by
   cases st with
   | take a b c=>exact⟨⟨a,b,c⟩,rfl⟩
  obtain⟨dm,ro,ba,h1,h2,h3,h4,h5⟩:=M.at';have li:i < ps.length:=by rw[M.len];exact (List.getElem?_eq_some_iff.mp em).1
  obtain⟨p,ep⟩:∃ p,ps[i]? = some p:=⟨ps[i],by simp[li]⟩;obtain⟨⟨d,g1⟩,g2⟩:=M.man i _ p em ep;have hu1:=Ji hr;refine⟨_,(Z8 (Zi (i:=3) ZcD.nd rfl (Or.inl rfl) (Z0q hu1 (Ze (pv 0) rfl) (Zj (ixT (K:=K) rfl) (pv 2) Z5 (λ_ _=>rfl)) (λ_ _=>rfl)))
   (Z8 (Zi (i:=4) ZcD.nd rfl (Or.inl rfl) (Zj (ixT (K:=K) rfl) (pv 2) Z5 (λ_ _=>rfl)))
   (Z8 (ZD (Zm Yz (Ze (pv 3) rfl) (pv 4) (Zs _)) (Z7 Yn) Zq)
   (Z8 (Zl (Zc Zby (hr.mono (by decide)) rfl T.Zc0 T.ZaH.kp T.ZbS .nil Zg (Z0 (pv 3) Z4)))
   (Z8 (ZD (Zm Jm (Zc Z9J (hr.mono (by decide)) rfl T.Za9 T.Z9Z.kp T.Zac .nil Zg (Z0 (pv 3) Z4)) Zb (Zs _)) (Z7 Yn) Zq)
   (Z7 (Z0r hu1 (Ze (pv 3) rfl) (pv 4) (ZF (Z0 (pv 1) (Z0 XE Z4))) rfl))))))),?_⟩
  walk_at "r";refine⟨mu,_,_,_,_,rfl,h1,T.Z9R,T.Z9y,rfl,?_⟩;walk_at "r";refine⟨dd,_,1,_,rfl,rfl,SqT.of hd,rfl,?_⟩;refine⟨ro,_,rfl,M.get em ep h2,?_⟩;walk_at "r";refine⟨dd,_,2,_,rfl,rfl,SqT.of hd,rfl,?_⟩;walk_at "r";refine⟨p.1,_,_,_,_,rfl,g1,T.Z9S,T.ZcV,rfl,?_⟩;walk_at "r";refine⟨rfl,?_⟩;rw[Y2];walk_at "r";refine Zt (λz=>ho (beq_iff_eq.mp z)) ?_;walk_at "r";refine⟨p.1,p.2,m,rfl,⟨⟨d,g1⟩,g2⟩,hdead,?_⟩;walk_at "r";refine⟨p.1,p.2,m,rfl,⟨⟨d,g1⟩,g2⟩,λH1 s1=>?_⟩;walk_at "r";refine⟨rfl,?_⟩;rw[Y2];walk_at "r";refine Zt (by rw[beq_iff_eq.mpr hh];decide) ?_;walk_at "r";refine⟨by show 2≤sizeLine;decide,λt ht=>?_⟩;have st:=Same.new ht (HO.tup [.int day,.bl false]);walk_at "r";refine⟨p.1,_,_,_,_,rfl,st _ _ (s1 _ _ g1),T.Z9S,T.Z9C,rfl,?_⟩;walk_at "r";obtain⟨kvs,gc0,gput⟩:∃ kvs:List (Key×V),H p.2=some (.dK kvs)∧kvs.length≤1∧X0 kvs (.inr sd) (.ref t)=[((Sum.inr sd:Key),.ref t)]:=by
   rcases hcl with e|⟨d0,e⟩
   ·rw[e] at g2;exact⟨[],g2,by simp,rfl⟩
   ·rw[e] at g2;obtain⟨t0,y1,y2⟩:=g2;exact⟨_,y1,by simp,by simp[X0]⟩
  have gc:=st _ _ (s1 _ _ gc0);refine⟨p.2,_,rfl,DPut.k (k:=.inr sd) gc (ZR (by have:=gput.1;omega)),?_⟩;rw[gput.2];walk_at "r";refine k _ (ps.set i (p.1,p.2)) (M.put em ep (m':={ m with cl:=some (sd,day,false) }) (λd2 o2 e2 n1 n2=>?_) ⟨⟨d,?_⟩,t,Z1,?_⟩ (.inl rfl))
  ·rw[Z2 n2];exact st _ _ (s1 _ _ e2)
  ·rw[Z2 (Zk g1 gc0 (by simp))];exact st _ _ (s1 _ _ g1)
  ·rw[Z2 (Ne.symm (Z6 (s1 _ _ gc0) ht)),Z1]
theorem Z0N (T:Txt K mg A):FnOk P w K mg base CX0 3 A.Z9M A.ZaC ["muster","day","deed"] (Z1Y A λd=>∃ m,d=.word m):=by
 have Zcf:=@Z0a P w K mg base A T;have Z9J:=@Xq P w K mg base A T;refine T.ZaS.ok ZaD (λvs H Q E h=>?_) (λcdv A' outer s H vs Q E hr h=>?_)
 ·obtain⟨B,mu,ct,dd,men,ps,bal,day,i,nm,m,m',d,rfl,_⟩:=h;rfl
 ·obtain⟨B,mu,ct,dd,men,ps,bal,day,i,nm,m,m',d,rfl,⟨nm',rfl⟩,rfl,M,hd,em,hdead,st,k⟩:=h
  change men[i]? = some (nm',m) at em
  change ∀ H' ps',MusterAt A B H' mu ct (men.set i (nm',m')) ps' bal→Q .non H' at k
  obtain⟨sd,d0,ecl,hsd,rfl⟩:∃ sd d0,m.cl=some (sd,d0,false)∧sd≠""∧m' = { m with cl:=some (sd,d0,true) }:=by
   cases st with
   | word a b=>exact⟨_,_,a,b,rfl⟩
  have hh:Yi m=sd:=by unfold Yi;rw[ecl]
  obtain⟨dm,ro,ba,h1,h2,h3,h4,h5⟩:=M.at';have li:i < ps.length:=by rw[M.len];exact (List.getElem?_eq_some_iff.mp em).1
  obtain⟨p,ep⟩:∃ p,ps[i]? = some p:=⟨ps[i],by simp[li]⟩;obtain⟨⟨d,g1⟩,g2⟩:=M.man i _ p em ep;have g2':=g2;rw[ecl] at g2';obtain⟨t0,y1,y2⟩:=g2';have hu1:=Ji hr;refine⟨_,(Z8 (Zi (i:=3) ZaD.nd rfl (Or.inl rfl) (Z0q hu1 (Ze (pv 0) rfl) (Zj (ixT (K:=K) rfl) (pv 2) Z5 (λ_ _=>rfl)) (λ_ _=>rfl)))
   (Z8 (Zl (Zc Zcf (hr.mono (by decide)) rfl T.Zco T.Zb9.kp T.Zci .nil Zg (Z0 (pv 3) Z4)))
   (Z8 (Zi (i:=4) ZaD.nd rfl (Or.inl rfl) (Zc Z9J (hr.mono (by decide)) rfl T.Za9 T.Z9Z.kp T.Zac .nil Zg (Z0 (pv 3) Z4)))
   (Z7 (Z0r hu1 (Ze (pv 3) rfl) (pv 4) (ZF (Z0 (Zj (ixT (K:=K) rfl) (Z0q hu1 (Ze (pv 3) rfl) (pv 4) (λ_ _=>rfl)) Z5 (λ_ _=>rfl)) (Z0 XE Z4))) rfl))))),?_⟩
  walk_at "r";refine⟨mu,_,_,_,_,rfl,h1,T.Z9R,T.Z9y,rfl,?_⟩;walk_at "r";refine⟨dd,_,1,_,rfl,rfl,SqT.of hd,rfl,?_⟩;refine⟨ro,_,rfl,M.get em ep h2,?_⟩;walk_at "r";refine⟨p.1,p.2,m,rfl,M.man i _ p em ep,hdead,by rw[hh];exact hsd,λH0 s0=>?_⟩;walk_at "r";refine⟨p.1,p.2,m,rfl,(M.man i _ p em ep).same s0,λH1 s01=>?_⟩;have s1:=s0.trans s01;rw[hh];walk_at "r";refine⟨p.1,_,_,_,_,rfl,s1 _ _ g1,T.Z9S,T.Z9C,rfl,?_⟩;walk_at "r";have gv:=DGet.k (k:=.inr sd) (s1 _ _ y1);rw[show ZP [((Sum.inr (sd,d0,false).1:Key),V.ref t0)] (.inr sd)=some (.ref t0) by simp[ZP]] at gv;refine⟨p.2,_,rfl,gv,?_⟩;walk_at "r";refine⟨t0,_,0,_,rfl,rfl,SqT.of (s1 _ _ y2),rfl,?_⟩;walk_at "r";refine⟨by show 2≤sizeLine;decide,λt ht=>?_⟩;have st:=Same.new ht (HO.tup [.int d0,.bl true]);walk_at "r";refine⟨p.1,_,_,_,_,rfl,st _ _ (s1 _ _ g1),T.Z9S,T.Z9C,rfl,?_⟩;walk_at "r";refine⟨p.2,_,rfl,DPut.k (k:=.inr sd) (st _ _ (s1 _ _ y1)) (ZR (by simp)),?_⟩;rw[show X0 [((Sum.inr sd:Key),V.ref t0)] (.inr sd) (.ref t)=[((Sum.inr sd:Key),V.ref t)] by simp[X0]];walk_at "r";refine k _ (ps.set i (p.1,p.2)) (M.put em ep (m':={ m with cl:=some (sd,d0,true) }) (λd2 o2 e2 n1 n2=>?_) ⟨⟨d,?_⟩,t,Z1,?_⟩ (.inl rfl))
  ·rw[Z2 n2];exact st _ _ (s1 _ _ e2)
  ·rw[Z2 (Zk g1 y1 (by simp))];exact st _ _ (s1 _ _ g1)
  ·rw[Z2 (Ne.symm (Z6 (s1 _ _ y1) ht)),Z1]
theorem Z2s (T:Txt K mg A):FnOk P w K mg base CX0 3 A.Z9V A.Zc2 ["muster","day","deed"] (Z1Y A λd=>∃ m,d=.flee m):=by
 have Zcf:=@Z0a P w K mg base A T;have Z9J:=@Xq P w K mg base A T;refine T.ZcG.ok Zdo (λvs H Q E h=>?_) (λcdv A' outer s H vs Q E hr h=>?_)
 ·obtain⟨B,mu,ct,dd,men,ps,bal,day,i,nm,m,m',d,rfl,_⟩:=h;rfl
 ·obtain⟨B,mu,ct,dd,men,ps,bal,day,i,nm,m,m',d,rfl,⟨nm',rfl⟩,rfl,M,hd,em,hdead,st,k⟩:=h
  change men[i]? = some (nm',m) at em
  change ∀ H' ps',MusterAt A B H' mu ct (men.set i (nm',m')) ps' bal→Q .non H' at k
  obtain⟨sd,d0,ecl,hsd,rfl⟩:∃ sd d0,m.cl=some (sd,d0,false)∧sd≠""∧m' = { m with cl:=none }:=by
   cases st with
   | flee a b=>exact⟨_,_,a,b,rfl⟩
  have hh:Yi m=sd:=by unfold Yi;rw[ecl]
  obtain⟨dm,ro,ba,h1,h2,h3,h4,h5⟩:=M.at';have li:i < ps.length:=by rw[M.len];exact (List.getElem?_eq_some_iff.mp em).1
  obtain⟨p,ep⟩:∃ p,ps[i]? = some p:=⟨ps[i],by simp[li]⟩;obtain⟨⟨d,g1⟩,g2⟩:=M.man i _ p em ep;have g2':=g2;rw[ecl] at g2';obtain⟨t0,y1,y2⟩:=g2';have hu1:=Ji hr;refine⟨_,(Z8 (Zi (i:=3) Zdo.nd rfl (Or.inl rfl) (Z0q hu1 (Ze (pv 0) rfl) (Zj (ixT (K:=K) rfl) (pv 2) Z5 (λ_ _=>rfl)) (λ_ _=>rfl)))
   (Z8 (Zl (Zc Zcf (hr.mono (by decide)) rfl T.Zco T.Zb9.kp T.Zci .nil Zg (Z0 (pv 3) Z4)))
   (Z7 (Zl (Z5P (Ze (pv 3) rfl) (Zc Z9J (hr.mono (by decide)) rfl T.Za9 T.Z9Z.kp T.Zac .nil Zg (Z0 (pv 3) Z4)) ⟨rfl,rfl,rfl,rfl⟩))))),?_⟩
  walk_at "r";refine⟨mu,_,_,_,_,rfl,h1,T.Z9R,T.Z9y,rfl,?_⟩;walk_at "r";refine⟨dd,_,1,_,rfl,rfl,SqT.of hd,rfl,?_⟩;refine⟨ro,_,rfl,M.get em ep h2,?_⟩;walk_at "r";refine⟨p.1,p.2,m,rfl,M.man i _ p em ep,hdead,by rw[hh];exact hsd,λH0 s0=>?_⟩;walk_at "r";refine⟨_,rfl,p.1,_,_,_,_,rfl,s0 _ _ g1,T.Z9S,T.Z9C,rfl,p.2,rfl,?_⟩;refine⟨.inl ⟨_,.inl (s0 _ _ y1)⟩,?_⟩;walk_at "r";refine⟨p.1,p.2,m,rfl,(M.man i _ p em ep).same s0,λH1 s01=>?_⟩;have s1:=s0.trans s01;rw[hh];refine⟨_,.inr sd,V.ref t0,s1 _ _ y1,rfl,by simp[ZP],?_⟩;rw[show JG [((Sum.inr sd:Key),V.ref t0)] (.inr sd)=[] by simp[JG]];walk_at "r";refine k _ (ps.set i (p.1,p.2)) (M.put em ep (m':={ m with cl:=none }) (c':=p.2) (λd2 o2 e2 n1 n2=>?_) ⟨⟨d,?_⟩,Z1⟩ (.inl rfl))
  ·rw[Z2 n2];exact s1 _ _ e2
  ·rw[Z2 (Zk g1 y1 (by simp))];exact s1 _ _ g1
end
noncomputable def Z5w (A:Ad):Sp:=λvs H Q E=>Z1Y A (λ_=>True) vs H (λ_ H'=>Q .non H') E
noncomputable def Z7c:Sp:=λvs H Q _=>∃ (e dd:Addr) (n d:Int),vs=[.ref e]∧H e=some (.tup [.int n,.int d,.ref dd])∧∀ p,H p=none→Q (.ref p) (upd H p (.tup [.int d,.int n]))
section
variable {P:Program}{w:World}{K:W.Frag}{mg:Str→Option Value}{base:Heap}{A:Ad}
theorem Z0x (T:Txt K mg A):FnOk P w K mg base CX0 1 A.Zat A.Zan ["entry"] Z7c:=by
 refine T.Zc8.ok Z0y (λvs H Q E h=>?_) (λcdv A' outer s H vs Q E hr h=>?_)
 ·obtain⟨e,dd,n,d,rfl,_⟩:=h;rfl
 ·obtain⟨e,dd,n,d,rfl,he,k⟩:=h;refine⟨_,(Z7 (Zo (ZF (Z0 (Zj (ixT (K:=K) rfl) (pv 0) Z5 (λ_ _=>rfl)) (Z0 (Zj (ixT (K:=K) rfl) (pv 0) Z5 (λ_ _=>rfl)) Z4))))),?_⟩;walk_at "r";refine⟨e,_,1,_,rfl,rfl,SqT.of he,rfl,?_⟩;walk_at "r";refine⟨e,_,0,_,rfl,rfl,SqT.of he,rfl,?_⟩;walk_at "r";exact⟨by show 2≤sizeLine;decide,k⟩
theorem Z14 (T:Txt K mg A)(TD:DictF w K A.Z9e (ZI A)):FnOk P w K mg base CX0 4 A.ZdD A.Zd2 ["muster","day","deed"] (Z5w A):=by
 refine T.Zc7.ok ZeE (λvs H Q E h=>?_) (λcdv A' outer s H vs Q E hr h=>?_)
 ·obtain⟨B,mu,ct,dd,men,ps,bal,day,i,nm,m,m',d,rfl,_⟩:=h;rfl
 ·obtain⟨B,mu,ct,dd,men,ps,bal,day,i,nm,m,m',d,rfl,_,hn,M,hd,em,hdead,st,k⟩:=h;refine⟨_,(Z8 (Zi (i:=3) ZeE.nd rfl (Or.inl rfl) (Z7v rfl T.Zfe TD (Zj (ixT (K:=K) rfl) (pv 2) Z5 (λ_ _=>rfl)) (λ_ _=>rfl)))
   (Z7 (Zl (Z5A (CX:=CX0) (pv 3) Zg (Z0 (pv 0) (Z0 (pv 1) (Z0 (pv 2) Z4))))))),?_⟩
  walk_at "r";cases d with
  | take a b=>
    refine⟨dd,_,0,_,rfl,rfl,SqT.of hd,rfl,?_⟩;refine⟨_,A.Zay,rfl,rfl,?_⟩;walk_at "r";refine Z0E rfl ⟨⟨2,_,_,Z35 T,hr.mono (by decide),T.Zew⟩,T.Zd7.kp⟩ ?_;walk_at "r";exact⟨B,mu,ct,dd,men,ps,bal,day,i,nm,m,m',_,rfl,⟨a,b,rfl⟩,hn,M,hd,em,hdead,st,k⟩
  | word a=>
    refine⟨dd,_,0,_,rfl,rfl,SqT.of hd,rfl,?_⟩;refine⟨_,A.Z9M,rfl,rfl,?_⟩;walk_at "r";refine Z0E rfl ⟨⟨3,_,_,Z0N T,hr.mono (by decide),T.ZcO⟩,T.ZaS.kp⟩ ?_;walk_at "r";exact⟨B,mu,ct,dd,men,ps,bal,day,i,nm,m,m',_,rfl,⟨a,rfl⟩,hn,M,hd,em,hdead,st,k⟩
  | flee a=>
    refine⟨dd,_,0,_,rfl,rfl,SqT.of hd,rfl,?_⟩;refine⟨_,A.Z9V,rfl,rfl,?_⟩;walk_at "r";refine Z0E rfl ⟨⟨3,_,_,Z2s T,hr.mono (by decide),T.ZdP⟩,T.ZcG.kp⟩ ?_;walk_at "r";exact⟨B,mu,ct,dd,men,ps,bal,day,i,nm,m,m',_,rfl,⟨a,rfl⟩,hn,M,hd,em,hdead,st,k⟩
end
noncomputable def ZV (m:Mn):Str×Ms:=(m.1,⟨m.2.1,m.2.2,false,none⟩)
noncomputable def Z2P (A:Ad):Sp:=λvs H Q _=>∃ (B:Hp) (x dx mt ct:Addr) (kvs:List (Key×V)) (ms:List Mn),vs=[.ref x,.ref mt,.ref ct]∧Same B H∧B x=none∧H x=some (.ins A.Z97 dx [])∧B mt=some (.dK kvs)∧Men B kvs ms∧(ms.map (·.1)).Nodup∧ms.length≤100∧
 ∀ H' ps,MusterAt A B H' x ct (ms.map ZV) ps []→Q .non H'
structure RosAt (A:Ad)(B:Hp)(x dx mt ro:Addr)(ob:Obj)(kvs:List (Key×V))(ms:List Mn)(i:Nat)(ps:List (Addr×Addr))(H:Hp):Prop where
 kp:∀ d o,B d=some o→d≠mt→H d=some o
 hz:H mt=some (.frz ob (.dK kvs))
 hx:H x=some (.ins A.Z97 dx [("roster",.ref ro)])
 hro:H ro=some (.dK (YX ((ms.map ZV).take i) ps))
 bro:B ro=none
 len:ps.length=i
 man:∀ (j:Nat) (m:Mn) (p:Addr×Addr),ms[j]? = some m→ps[j]? = some p→ManAt A H p.1 p.2 (ZV m).2
 fresh:∀ p∈ps,B p.1=none∧B p.2=none∧p.2≠ro
 nd1:(ps.map (·.1)).Nodup
 nd2:(ps.map (·.2)).Nodup
section
variable {P:Program}{w:World}{K:W.Frag}{mg:Str→Option Value}{base:Heap}{A:Ad}
theorem Z4B {men:Ja}{ps:List (Addr×Addr)}{m:Str×Ms}{p:Addr×Addr}(h:ps.length=men.length):YX (men++[m]) (ps++[p])=YX men ps++[((Sum.inr m.1:Key),V.ref p.1)]:=by
 unfold YX;rw[List.zipWith_append h.symm];rfl
theorem Z19 (T:Txt K mg A):FnOk P w K mg base CX0 3 A.Z9T A.ZaR ["self","man_table","cartel_table"] (Z2P A):=by
 have Zg3:=@Z32 P w K mg base A T;refine T.Zdg.ok ZaT (λvs H Q E h=>?_) (λcdv A' outer s H vs Q E hr h=>?_)
 ·obtain⟨B,x,dx,mt,ct,kvs,ms,rfl,_⟩:=h;rfl
 ·obtain⟨B,x,dx,mt,ct,kvs,ms,rfl,sB,bx,hx,hmt,hms,nd,h100,k⟩:=h;have hu1:=Ji hr;refine⟨_,(Z8 (Y0 (pv 0) Z0w rfl)
   (Z8 (Z3r (XJ PassesOwn.never rfl (piD (Z0z (pv 1))) (pgT (K:=K) (n:=2) rfl rfl (Y8 (Zu (i:=3) ZaT.nd rfl (Or.inl rfl)) (Y8 (Zu (i:=4) ZaT.nd rfl (Or.inl rfl)) Jz))) (Z7 (Z0r hu1 (Ze (pv 0) rfl) (pv 3) (XY T.Zgf Zg3 (hr.mono (by decide)) rfl T.Zgx T.Zev .nil Zg (Z0 (Zj (ixT (K:=K) rfl) (pv 4) Z5 (λ_ _=>rfl)) (Z0 (Zj (ixT (K:=K) rfl) (pv 4) Z5 (λ_ _=>rfl)) Z4))) rfl))))
   (Z8 (Y0 (pv 0) (pv 2) rfl)
   (Z7 (Y0 (pv 0) Z2i rfl))))),?_⟩
  walk_at "r";intro ro hro;walk_at "r";have nxr:x≠ro:=Z6 hx hro;refine⟨x,_,dx,_,rfl,by rw[Z2 nxr];exact hx,T.Z9R,T.Z9y,by decide,?_⟩;walk_at "r";have bro:B ro=none:=by
   cases z:B ro with
   | none=>rfl
   | some o=>rw[sB _ _ z] at hro;cases hro
  have kp0:∀ d o,B d=some o→upd (upd H ro (.dK [])) x (.ins A.Z97 dx [("roster",.ref ro)]) d=some o:=λd o e=>by
   rw[Z2 (Z6 e bx),Z2 (Z6 e bro)];exact sB _ _ e
  have hx0:upd (upd H ro (.dK [])) x (.ins A.Z97 dx [("roster",.ref ro)]) x=some (.ins A.Z97 dx [("roster",.ref ro)]):=Z1;have hr0:upd (upd H ro (.dK [])) x (.ins A.Z97 dx [("roster",.ref ro)]) ro=some (.dK []):=by rw[Z2 (Ne.symm nxr),Z1]
  rw[show ZA "roster" (V.ref ro) []=[(("roster" : Str),V.ref ro)] from rfl];generalize upd (upd H ro (.dK [])) x (.ins A.Z97 dx [("roster",.ref ro)])=H1 at kp0 hx0 hr0 ⊢;refine⟨_,rfl,mt,kvs,rfl,Rd.of (kp0 _ _ hmt),λv hv=>?_⟩;have sv:=Same.new hv (Jj v mt);refine⟨v,mt,kvs,rfl,Z1,.inl ⟨sv _ _ (kp0 _ _ hmt),λob nf=>?_⟩⟩;refine Z1x (λi σ2 H2=>(∃ ps,RosAt A B x dx mt ro ob kvs ms i ps H2)∧∃ u1 u2,σ2=[some (.ref x),some (.ref mt),some (.ref ct),u1,u2]) ⟨⟨[],λd o e ne=>?_,Z1,?_,?_,bro,rfl,λj m p _ z=>by simp at z,λp z=>by simp at z,by simp,by simp⟩,none,none,rfl⟩ (λi σ2 H2 _ q=>let ⟨⟨ps,R⟩,_⟩:=q;R.hz) ?_ ?_
  ·rw[Z2 ne];exact sv _ _ (kp0 _ _ e)
  ·rw[Z2 (Zk hx0 (kp0 _ _ hmt) (by simp))];exact sv _ _ hx0
  ·rw[Z2 (Ne.symm (Z6 hmt bro))];exact sv _ _ hr0
  ·rintro i kk xv p σ2 H2 ei ⟨⟨ps,R⟩,u1,u2,rfl⟩ hp;have lk:i < kvs.length:=(List.getElem?_eq_some_iff.mp ei).1;have lm:i < ms.length:=by rw[←hms.1];exact lk
   obtain⟨m,em⟩:∃ m,ms[i]? = some m:=⟨ms[i],by simp[lm]⟩;obtain⟨tp,a1,a2⟩:=hms.2 i m em;rw[ei] at a1;obtain⟨rfl,rfl⟩:kk=Sum.inr m.1∧xv=V.ref tp:=by
    injection a1 with a1;injection a1 with b1 b2;exact⟨b1,b2⟩
   have sp:=Same.new hp (HO.tup [kV (.inr m.1),V.ref tp]);have tmt:tp≠mt:=Zk a2 hmt (by simp);refine⟨p,_,rfl,SqT.of Z1,rfl,_,[V.ref tp],rfl,_,[],rfl,rfl,?_⟩;walk_at "r";have et:=sp _ _ (R.kp _ _ a2 tmt);refine⟨tp,_,0,_,rfl,rfl,SqT.of et,rfl,?_⟩;walk_at "r";refine⟨tp,_,1,_,rfl,rfl,SqT.of et,rfl,?_⟩;walk_at "r";intro y dy hy hdy ney;refine⟨y,dy,m.2.1,m.2.2,rfl,Z1,λc H3 hc ncy kpc f1 f2=>⟨rfl,?_⟩⟩;have S23:Same H2 H3:=λd o e=>by
    have e1:=sp _ _ e;exact kpc d o (by rw[Z2 (Z6 e1 hy),Z2 (Z6 e1 hdy)];exact e1) (Z6 e1 hy)
   have y2:H2 y=none:=by
    cases z:H2 y with
    | none=>rfl
    | some o=>rw[sp _ _ z] at hy;cases hy
   have c2:H2 c=none:=by
    cases z:H2 c with
    | none=>rfl
    | some o=>
      have e1:=sp _ _ z;rw[Z2 ncy,Z2 (Z6 e1 hdy),e1] at hc;cases hc
   have inB:∀ d,H2 d=none→B d=none:=λd z=>by
    cases e:B d with
    | none=>rfl
    | some o=>
      by_cases hd:d=mt
      ·rw[hd,R.hz] at z;cases z
      ·rw[R.kp _ _ e hd] at z;cases z
   walk_at "r";refine⟨x,_,_,_,_,rfl,S23 _ _ R.hx,T.Z9R,T.Z9y,rfl,?_⟩;walk_at "r";have lt:((ms.map ZV).take i).length=ps.length:=by rw[List.length_take,List.length_map,R.len];omega
   have nov:ZP (YX ((ms.map ZV).take i) ps) (.inr m.1)=none:=by
    cases z:ZP (YX ((ms.map ZV).take i) ps) (.inr m.1) with
    | none=>rfl
    | some u=>
      exfalso;unfold ZP at z;obtain⟨kv,z1,z2⟩:=Option.map_eq_some_iff.mp z;have z3:kv.1=Sum.inr m.1:=by simpa using List.find?_some z1
      have z4:kv.1∈(YX ((ms.map ZV).take i) ps).map (·.1):=List.mem_map.mpr ⟨kv,List.mem_of_find?_eq_some z1,rfl⟩;rw[Z1A lt.symm,z3] at z4;obtain⟨q,q1,q2⟩:=List.mem_map.mp z4;obtain⟨j,hj,ej⟩:=List.mem_iff_getElem.mp q1;have hj2:j < i:=by simp at hj;omega
      have hj3:j < ms.length:=by omega
      have e5:q.1=m.1:=Sum.inr.inj q2;have e6:q=ZV ms[j]:=by rw[←ej];simp
      rw[e6] at e5;have:=YZ nd (i:=j) (j:=i) (a:=m.1) (by rw[List.getElem?_map];simp[hj3];exact e5) (by rw[List.getElem?_map,em];rfl);omega
   refine⟨ro,_,rfl,DPut.k (k:=.inr m.1) (S23 _ _ R.hro) (ZR (by unfold YX;rw[List.length_zipWith,lt,Nat.min_self,R.len];omega)),?_⟩;rw[Z2e _ nov];walk_at "r";have nro:∀ d o,H2 d=some o→d≠ro→upd H3 ro (.dK (YX ((ms.map ZV).take i) ps++[((Sum.inr m.1:Key),V.ref y)])) d=some o:=λd o e ne=>by rw[Z2 ne];exact S23 _ _ e
   have cr:c≠ro:=λz=>by rw[z,R.hro] at c2;cases c2
   have yr:y≠ro:=λz=>by rw[z,R.hro] at y2;cases y2
   refine⟨⟨ps++[(y,c)],λd o e ne=>?_,nro _ _ R.hz (Zk R.hz R.hro (by simp)),nro _ _ R.hx (Zk R.hx R.hro (by simp)),?_,bro,by simp[R.len],λj mj q ej fj=>?_,λq hq=>?_,?_,?_⟩,_,_,rfl⟩
   ·exact nro _ _ (R.kp _ _ e ne) (Z6 e bro)
   ·rw[Z1];have e7:(ms.map ZV).take (i + 1)=(ms.map ZV).take i++[ZV m]:=by
     rw[List.take_succ,List.getElem?_map,em];rfl
    rw[e7,Z4B lt.symm];rfl
   ·by_cases hj:j < i
    ·rw[List.getElem?_append_left (by rw[R.len];exact hj)] at fj;obtain⟨⟨dj,b1⟩,b2⟩:=R.man j mj q ej fj;have fq:=R.fresh q (List.mem_of_getElem? fj);exact⟨⟨dj,nro _ _ b1 (Zk b1 R.hro (by simp))⟩,nro _ _ b2 fq.2.2⟩
    ·have hj2:j=i:=by
      have:=(List.getElem?_eq_some_iff.mp fj).1;simp[R.len] at this;omega
     subst hj2;rw[List.getElem?_append_right (by rw[R.len];exact Nat.le_refl _),R.len,Nat.sub_self] at fj;rw[em] at ej;cases ej;obtain rfl:(y,c)=q:=by simpa using fj
     exact⟨⟨dy,by rw[Z2 yr];exact f1⟩,by show upd _ _ _ c=_;rw[Z2 cr];exact f2⟩
   ·rcases List.mem_append.mp hq with z|z
    ·exact R.fresh q z
    ·obtain rfl:q=(y,c):=by simpa using z
     exact⟨inB _ y2,inB _ c2,cr⟩
   ·rw[List.map_append];refine List.nodup_append.mpr ⟨R.nd1,by simp,λa ha b hb z=>?_⟩;obtain rfl:b=y:=by simpa using hb
    subst z;obtain⟨q,q1,q2⟩:=List.mem_map.mp ha;obtain⟨j,hj,ej⟩:=List.mem_iff_getElem.mp q1;have hj3:j < ms.length:=by rw[R.len] at hj;omega
    obtain⟨⟨dj,b1⟩,b2⟩:=R.man j ms[j] q (by simp[hj3]) (by simp[hj,ej]);rw[q2,y2] at b1;cases b1
   ·rw[List.map_append];refine List.nodup_append.mpr ⟨R.nd2,by simp,λa ha b hb z=>?_⟩;obtain rfl:b=c:=by simpa using hb
    subst z;obtain⟨q,q1,q2⟩:=List.mem_map.mp ha;obtain⟨j,hj,ej⟩:=List.mem_iff_getElem.mp q1;have hj3:j < ms.length:=by rw[R.len] at hj;omega
    obtain⟨_,b2⟩:=R.man j ms[j] q (by simp[hj3]) (by simp[hj,ej]);have b3:H2 q.2=some (.dK []):=b2;rw[q2,c2] at b3;cases b3
  ·rintro σ2 H2 ⟨⟨ps,R⟩,u1,u2,rfl⟩;refine⟨_,.inr ⟨mt,ob,kvs,nf,R.hz,rfl⟩,?_⟩;have hl:kvs.length=ms.length:=hms.1;have ea:(ms.map ZV).take kvs.length=ms.map ZV:=by rw[hl];exact List.take_of_length_le (by simp)
   have kpB:Same B (upd H2 mt (.dK kvs)):=λd o e=>by
    by_cases hd:d=mt
    ·subst hd;rw[hmt] at e;cases e;exact Z1
    ·rw[Z2 hd];exact R.kp _ _ e hd
   have nmt:∀ d o,H2 d=some o→(∀ u v,o≠.frz u v)→upd H2 mt (.dK kvs) d=some o:=λd o e n=>by
    rw[Z2 λz=>by rw[z,R.hz] at e;cases e;exact n _ _ rfl];exact e
   have hx3:=nmt _ _ R.hx (by simp);have hr3:=nmt _ _ R.hro (by simp);rw[ea] at hr3;have man3:∀ (j:Nat) (m:Str×Ms) (p:Addr×Addr),(ms.map ZV)[j]? = some m→ps[j]? = some p→(∃ d,upd H2 mt (.dK kvs) p.1=some (.ins A.Z9o d (Z47 m.2 p.2)))∧m.2.cl=none∧upd H2 mt (.dK kvs) p.2=some (.dK []):=λj m p ej fj=>by
    rw[List.getElem?_map] at ej;obtain⟨mn,e1,rfl⟩:=Option.map_eq_some_iff.mp ej;obtain⟨⟨dj,b1⟩,b2⟩:=R.man j mn p e1 fj;exact⟨⟨dj,nmt _ _ b1 (by simp)⟩,rfl,nmt _ _ (show H2 p.2=some (.dK []) from b2) (by simp)⟩
   generalize upd H2 mt (.dK kvs)=H3 at kpB hx3 hr3 man3 ⊢;walk_at "r";refine⟨x,_,dx,_,rfl,hx3,T.Z9R,T.Zbq,(show 1 < 1000 by decide),?_⟩;walk_at "r";intro ba hba;walk_at "r";have xba:x≠ba:=Z6 Z1 hba;have ba3:H3 ba=none:=by rw[Z2 (Ne.symm xba)] at hba;exact hba
   have e4:upd (upd H3 x (.ins A.Z97 dx [("roster",.ref ro),("treaties",.ref ct)])) ba (.dT []) x=some (.ins A.Z97 dx [("roster",.ref ro),("treaties",.ref ct)]):=by rw[Z2 xba,Z1]
   refine⟨x,_,dx,_,rfl,e4,T.Z9R,T.Zbp,(show 2 < 1000 by decide),?_⟩;walk_at "r";have kp5:∀ d o,H3 d=some o→d≠x→upd (upd (upd H3 x (.ins A.Z97 dx [("roster",.ref ro),("treaties",.ref ct)])) ba (.dT [])) x (.ins A.Z97 dx [("roster",.ref ro),("treaties",.ref ct),("balances",.ref ba)]) d=some o:=λd o e ne=>by
    rw[Z2 ne,Z2 (Z6 e ba3),Z2 ne];exact e
   refine k _ ps ⟨⟨dx,ro,ba,Z1,kp5 _ _ hr3 (Zk hr3 hx3 (by simp)),by rw[Z2 (Ne.symm xba),Z1],?_,λp hp=>(R.fresh p hp).2.2⟩,by rw[R.len,List.length_map,hl],λj m p ej fj=>?_,λd o e=>kp5 _ _ (kpB _ _ e) (Z6 e bx),λp hp=>⟨(R.fresh p hp).1,(R.fresh p hp).2.1⟩,R.nd1,R.nd2,?_⟩
   ·cases z:B ba with
    | none=>rfl
    | some o=>rw[kpB _ _ z] at ba3;cases ba3
   ·obtain⟨⟨dj,b1⟩,b2,b3⟩:=man3 j m p ej fj;refine⟨⟨dj,kp5 _ _ b1 (Ne.symm (Z1C b1 hx3 (by simp)))⟩,?_⟩;rw[b2];exact kp5 _ _ b3 (Zk b3 hx3 (by simp))
   ·rw[List.map_map];exact nd
end
noncomputable def Z3W:Sp:=λvs H Q _=>∃ z t:Str,vs=[.str z,.str t]∧z.cps.size≤1000∧∀ H',Same H H'→Q (.bl (Z1X z t)) H'
noncomputable def Z46:Sp:=λvs H Q _=>∃ z:Str,vs=[.str z]∧z.cps.size≤1000∧∀ H',Same H H'→Q (.bl (Yh z)) H'
noncomputable def Z43 (C:Addr):Sp:=λvs H Q E=>∃ r:Int,vs=[.int r]∧(0≤r∧r < 6→Q .non H)∧(¬ (0≤r∧r < 6)→E (.ref C) none H)
noncomputable def Z42 (C:Addr):Sp:=λvs H Q E=>∃ n m:Int,vs=[.int n,.int m]∧(n < m→Q .non H)∧(m≤n→E (.ref C) none H)
noncomputable def Z8Y (K:W.Frag)(H:Hp)(p:Addr)(z:Str)(b:Bool):Prop:=(∃ zs:List Str,SqL K H p (zs.map V.str)∧b=decide (z∈zs))∨∃ o,DGet H p (.str z) o∧b=o.isSome
noncomputable def Z5d (K:W.Frag)(A:Ad):Sp:=λvs H Q E=>∃ (z:Str) (p:Addr) (b:Bool),vs=[.str z,.ref p]∧z.cps.size≤1000∧(∀ H',Same H H'→Z8Y K H' p z b)∧
 (Yh z=false→∀ H',Same H H'→E (.ref A.Z9h) none H')∧(Yh z=true→b=true→∀ H',Same H H'→E (.ref A.Z9u) none H')∧(Yh z=true→b=false→∀ H',Same H H'→Q .non H')
noncomputable abbrev Z0m (sn mt:Addr)(ct dl:V)(n:Int):List (Str×V):=[("side_names",.ref sn),("man_table",.ref mt),("cartel_table",ct),("deed_list",dl),("next_number",.int n)]
noncomputable def Z3T (A:Ad):Sp:=λvs H Q _=>∃ (x dx sn mt:Addr) (ct dl:V) (n:Int),vs=[.ref x,.ref sn,.ref mt,ct,dl,.int n]∧H x=some (.ins A.Z98 dx [])∧Q .non (upd H x (.ins A.Z98 dx (Z0m sn mt ct dl n)))
noncomputable def X9 (zs:List Str)(z:Str):Option Nat:=if Yh z=false then some 0 else if z∈zs then some 1 else if 6≤zs.length then some 2 else none
noncomputable def Ya (zs:List Str)(ms:List Mn)(z y:Str)(r:Int):Option Nat:=if Yh z=false then some 0 else if z∈ms.map (·.1) then some 1 else if ¬ y∈zs then some 3 else if ¬ (0≤r∧r < 6) then some 5 else if 40≤ms.length then some 2 else none
noncomputable abbrev Cs (A:Ad):List Addr:=[A.Z9h,A.Z9u,A.Z9B,A.Z9p,A.Z9w,A.Z9j,A.Za1,A.Z9c,A.Z9f,A.Z9q,A.Z9g,A.Z9z,A.Z9x,A.Z9H,A.Z9F,A.Z9m,A.Z9l,A.Z9t,A.Z9s,A.Z9d]
section
variable {P:Program}{w:World}{K:W.Frag}{mg:Str→Option Value}{base:Heap}{A:Ad}
theorem Z29 (T:Txt K mg A):FnOk P w K mg base CX0 1 A.Zcp A.Zbx ["text","signs"] Z3W:=by
 refine T.ZcM.ok Z2K (λvs H Q E h=>?_) (λcdv A' outer s H vs Q E hr h=>?_)
 ·obtain⟨z,t,rfl,_⟩:=h;rfl
 ·obtain⟨z,t,rfl,hz,k⟩:=h;refine⟨_,(Z7 (Zo (Zh (Z8Q (K:=K) rfl rfl) rfl T.ZgC L2.boot_all (Z0 (Xy (N:=["sign","signs"]) (fr:=[none,some 1]) rfl (XN (osc:=Z3 Yo) (ON:=Z3i) (by decide +kernel) rfl rfl) (piS (pv 0)) (λ_ _ _ _=>(Zu (i:=0) (show List.Nodup (["sign","signs"]:List Str) by decide +kernel) rfl (Or.inl rfl))) (λ_ _ _ _=>(Z1n Z4O (pv 0) (pv 1) (by with_unfolding_all rfl)))) Z4)))),?_⟩;walk_at "r";refine⟨_,rfl,z,rfl,λD hD=>?_⟩;refine JL z.cps.size (λi bs τ H2=>Same H H2∧H2 D=some (.lst bs)∧bs=(((Xz z).take i).map λc=>inT c t).map V.bl∧∃ u,τ=[u,some (.str t)]) ⟨Same.new hD _,Z1,rfl,none,rfl⟩ (λi bs τ H2 _ q=>q.2.1) ?_ ?_
  ·rintro i bs τ H2 hi ⟨sm,hDz,rfl,u,rfl⟩;refine⟨hi,ZR (by rw[List.length_map,List.length_map,List.length_take];omega),?_⟩;rintro x' H3 ⟨rfl,c,hc,rfl⟩;walk_at "r";refine⟨_,_,rfl,rfl,?_⟩;refine⟨hDz,Jd sm hD,Z1,?_,_,rfl⟩;rw[Z02 (Z5E hc),List.map_append,List.map_append];rfl
  ·rintro bs τ H2 ⟨sm,hDz,rfl,u,rfl⟩;refine⟨Nat.le_refl _,?_⟩;walk_at "r";refine⟨D,_,rfl,SqL.of hDz,?_⟩;have e:((((Xz z).take z.cps.size).map λc=>inT c t).all id)=Z1X z t:=by
    rw[List.take_of_length_le (by rw[Z21];exact Nat.le_refl _),List.all_map];rfl
   rw[e];exact k H2 sm
theorem Z2J (T:Txt K mg A):FnOk P w K mg base CX0 2 A.Zch A.ZbW ["text"] Z46:=by
 have ZfJ:=@Z29 P w K mg base A T;refine T.Zcb.ok Z2g (λvs H Q E h=>?_) (λcdv A' outer s H vs Q E hr h=>?_)
 ·obtain⟨z,rfl,_⟩:=h;rfl
 ·obtain⟨z,rfl,hz,k⟩:=h;refine⟨_,(Z7 (Zo (Z4t (Z6e Z16 Z16 Z5 (Zh Z2O rfl T.ZaF PySem.boot_len (Z0 (pv 0) Z4)) (Xj (i:=8) rfl T.ZcU)) (Z57 (Zc ZfJ (hr.mono (by decide)) rfl T.Zea T.ZcM.kp T.Ze6 .nil Zg (Z0 (pv 0) (Z0 (Z4K (z:="abcdefghijklmnopqrstuvwxyz") rfl T.Zf2) Z4))))))),?_⟩;walk_at "r";refine⟨z,rfl,ZC hz,?_⟩;walk_at "r";have fin:∀ b:Bool,b=Yh z→∀ H',Same H H'→Q (.bl b) H':=λb e H' s'=>by rw[e];exact k H' s'
  by_cases h1:(1:Int)≤(z.length:Int)
  ·refine Y1 (decide_eq_true h1) ?_;walk_at "r"
   by_cases h2:(z.length:Int)≤8
   ·refine Y1 (decide_eq_true h2) ?_;walk_at "r";refine⟨z,_,rfl,hz,λH' s'=>?_⟩;refine fin _ ?_ H' s';unfold Yh;rw[decide_eq_true h1,decide_eq_true h2];rfl
   ·refine Zt (λh=>h2 (of_decide_eq_true h)) ?_;refine fin _ ?_ H (Same.refl H);unfold Yh;rw[decide_eq_false h2,Bool.and_false];rfl
  ·refine Zt (λh=>h1 (of_decide_eq_true h)) ?_;walk_at "r";refine Zt Bool.false_ne_true ?_;refine fin _ ?_ H (Same.refl H);unfold Yh;rw[decide_eq_false h1];rfl
theorem Z01 (T:Txt K mg A):FnOk P w K mg base (CX1 P w) 1 A.Zcg A.ZbX ["rank"] (Z43 A.Z9j):=by
 refine T.Zcu.okX Z2x (λvs H Q E h=>?_) (λcdv A' outer s H vs Q E hr h=>?_)
 ·obtain⟨r,rfl,_⟩:=h;rfl
 ·obtain⟨r,rfl,k1,k2⟩:=h;refine⟨_,(Z7 (ZD (JW (Z2z Z16 Z6M Z5 (pv 0) (Xj (i:=6) rfl T.Zdm))) (Z7 (Xe ZM rfl rfl T.Zdp T.Zdk (Z0 Zb Z4))) Zq)),?_⟩;walk_at "r"
  by_cases h1:(0:Int)≤r
  ·refine Y1 (decide_eq_true h1) ?_;walk_at "r"
   by_cases h2:r < 6
   ·refine Zt (by rw[decide_eq_true h2];simp) ?_;walk_at "r";exact k1 ⟨h1,h2⟩
   ·refine Y1 (by rw[decide_eq_false h2];rfl) ?_;walk_at "r";exact⟨by decide,k2 λh=>h2 h.2⟩
  ·refine Zt (λh=>h1 (of_decide_eq_true h)) ?_;walk_at "r";refine Y1 rfl ?_;walk_at "r";exact⟨by decide,k2 λh=>h1 h.1⟩
theorem Jh (T:Txt K mg A):FnOk P w K mg base (CX1 P w) 1 A.Zcr A.ZbP ["many","most"] (Z42 A.Z9B):=by
 refine T.Zaa.okX Z2B (λvs H Q E h=>?_) (λcdv A' outer s H vs Q E hr h=>?_)
 ·obtain⟨n,m,rfl,_⟩:=h;rfl
 ·obtain⟨n,m,rfl,k1,k2⟩:=h;refine⟨_,(Z7 (ZD (Zm Z6x (pv 0) (pv 1) (Zs _)) (Z7 (Xe ZM rfl rfl T.ZfA T.Zff (Z0 Zb Z4))) Zq)),?_⟩;walk_at "r"
  by_cases h1:m≤n
  ·refine Y1 (decide_eq_true h1) ?_;walk_at "r";exact⟨by decide,k2 h1⟩
  ·refine Zt (λh=>h1 (of_decide_eq_true h)) ?_;walk_at "r";exact k1 (by omega)
theorem Jc (T:Txt K mg A):FnOk P w K mg base (CX1 P w) 3 A.Zas A.Zam ["name","table"] (Z5d K A):=by
 have ZfN:=@Z2J P w K mg base A T;refine T.Za0.okX Z0L (λvs H Q E h=>?_) (λcdv A' outer s H vs Q E hr h=>?_)
 ·obtain⟨z,p,b,rfl,_⟩:=h;rfl
 ·obtain⟨z,p,b,rfl,hz,hin,k1,k2,k3⟩:=h;have hu1:=Ji hr;refine⟨_,(Z8 (ZD (JW (Z15 (Zc ZfN (hr.mono (by decide)) rfl T.Ze8 T.Zcb.kp T.ZdX .nil Zg (Z0 (pv 0) Z4)))) (Z7 (Xe ZM rfl rfl T.Zds T.Zdw (Z0 Zb Z4))) Zq)
   (Z7 (ZD (Zm (Z7D (K:=K) rfl hu1) (pv 0) (pv 1) (by with_unfolding_all rfl)) (Z7 (Xe ZM rfl rfl T.ZeO T.ZeK (Z0 Zb Z4))) Zq))),?_⟩
  walk_at "r";refine⟨z,rfl,hz,λH1 s1=>?_⟩;walk_at "r";cases g:Yh z with
  | false=>
    refine Y1 rfl ?_;walk_at "r";exact⟨by decide,k1 g H1 s1⟩
  | true=>
    refine Zt Bool.false_ne_true ?_;walk_at "r";have fin:∀ c:Bool,c=b→(λv H2=>∃ k,v=V.bl k∧if k=true then Z2t E A.Z9u (Jp (tC (.str "the name is taken")) Z0b) { nx:=Z0i { nx:=λ_ H'=>Q .non H',rt:=Q },rt:=Q } [some (.str z),some (.ref p)] H2 else Z0i { nx:=Z0i { nx:=λ_ H'=>Q .non H',rt:=Q },rt:=Q } [some (.str z),some (.ref p)] H2) (V.bl c) H1:=λc e=>by
     subst e;refine⟨_,rfl,?_⟩;cases c with
     | true=>
       refine Y1 rfl ?_;walk_at "r";exact⟨by decide,k2 g rfl H1 s1⟩
     | false=>
       refine Zt Bool.false_ne_true ?_;exact k3 g rfl H1 s1
    rcases hin H1 s1 with⟨zs,hl,e⟩|⟨o,hd,e⟩
    ·refine .inl ⟨p,_,rfl,.inl hl,rfl,Z08 zs,?_⟩;rw[if_neg Bool.false_ne_true,Z0G];exact fin _ e.symm
    ·exact .inr ⟨p,o,rfl,hd,fin _ e.symm⟩
end
noncomputable abbrev Z5z:=Option ((Str×Str)×List Int×Int)
structure Pg where
 sides:List Str
 men:List Mn
 cart:Z5z
 deeds:List (Int×Int×Deed)
 next:Int
noncomputable def CtAt (H:Hp)(ct:Addr):Z5z→Prop
 | none=>H ct=some (.dT [])
 | some c=>∃ tt tw,H ct=some (.dT [([.inr c.1.1,.inr c.1.2],.ref tt)])∧H tt=some (.tup [.ref tw,.int c.2.2])∧H tw=some (.tup (c.2.1.map V.int))
noncomputable def DlAt (H:Hp)(dl:Addr)(ds:List (Int×Int×Deed)):Prop:=∃ es:List Addr,H dl=some (.lst (es.map V.ref))∧es.length=ds.length∧∀ (i:Nat) (d:Int×Int×Deed),ds[i]? = some d→∃ e dd,es[i]? = some e∧H e=some (.tup [.int d.1,.int d.2.1,.ref dd])∧DeedAt H dd d.2.2
structure PgAt (A:Ad)(H:Hp)(pg sn dl:Addr)(g:Pg):Prop where
 at':∃ dp mt ct kvs,H pg=some (.ins A.Z98 dp (Z0m sn mt (.ref ct) (.ref dl) g.next))∧H mt=some (.dK kvs)∧Men H kvs g.men∧CtAt H ct g.cart
 hs:H sn=some (.lst (g.sides.map V.str))
 hd:DlAt H dl g.deeds
theorem CtAt.same {H H':Hp}{ct:Addr}{c:Z5z}(h:CtAt H ct c)(s:Same H H'):CtAt H' ct c:=by
 cases c with
 | none=>exact s _ _ h
 | some c=>obtain⟨tt,tw,a,b,d⟩:=h;exact⟨tt,tw,s _ _ a,s _ _ b,s _ _ d⟩
theorem DlAt.same {H H':Hp}{dl:Addr}{ds:List (Int×Int×Deed)}(h:DlAt H dl ds)(s:Same H H'):DlAt H' dl ds:=by
 obtain⟨es,a,b,c⟩:=h;exact⟨es,s _ _ a,b,λi d e=>let ⟨x,dd,p,q,r⟩:=c i d e;⟨x,dd,p,s _ _ q,r.same s⟩⟩
theorem PgAt.same {A:Ad}{H H':Hp}{pg sn dl:Addr}{g:Pg}(h:PgAt A H pg sn dl g)(s:Same H H'):PgAt A H' pg sn dl g:=by
 obtain⟨dp,mt,ct,kvs,a,b,c,d⟩:=h.at';exact⟨⟨dp,mt,ct,kvs,s _ _ a,s _ _ b,c.same λp xs e=>s _ _ e,d.same s⟩,s _ _ h.hs,h.hd.same s⟩
noncomputable def Z31 (A:Ad):Sp:=λvs H Q E=>∃ (pg sn dl:Addr) (g:Pg) (y:Str),vs=[.ref pg,.str y]∧PgAt A H pg sn dl g∧(y∈g.sides→Q .non H)∧(¬ y∈g.sides→E (.ref A.Z9p) none H)
noncomputable def Z5l (A:Ad):Sp:=λvs H Q E=>∃ (pg sn dl:Addr) (g:Pg) (y:Str),vs=[.ref pg,.str y]∧PgAt A H pg sn dl g∧(y∈g.men.map (·.1)→Q .non H)∧(¬ y∈g.men.map (·.1)→E (.ref A.Z9w) none H)
noncomputable def Z5f (A:Ad):Sp:=λvs H Q E=>∃ d:Int,vs=[.int d]∧(0≤d∧d≤1000000→Q .non H)∧(¬ (0≤d∧d≤1000000)→E (.ref A.Z9q) none H)
section
variable {P:Program}{w:World}{K:W.Frag}{mg:Str→Option Value}{base:Heap}{A:Ad}
theorem JQ (T:Txt K mg A):FnOk P w K mg base (CX1 P w) 1 A.ZcH A.ZbK ["page","name"] (Z31 A):=by
 refine T.Zb1.okX Z2w (λvs H Q E h=>?_) (λcdv A' outer s H vs Q E hr h=>?_)
 ·obtain⟨pg,sn,dl,g,y,rfl,_⟩:=h;rfl
 ·obtain⟨pg,sn,dl,g,y,rfl,PA,k1,k2⟩:=h;obtain⟨dp,mt,ct,kvs,h1,h2,h3,h4⟩:=PA.at';refine⟨_,(Z7 (ZD (Zm (Z59 (K:=K) rfl) (pv 1) (Ze (pv 0) rfl) (by with_unfolding_all rfl)) (Z7 (Xe ZM rfl rfl T.Zel T.Zef (Z0 Zb Z4))) Zq)),?_⟩;walk_at "r";refine⟨pg,_,_,_,_,rfl,h1,T.Z96,T.Z9b,rfl,?_⟩;refine⟨sn,_,rfl,.inl (SqL.of PA.hs),rfl,Z08 g.sides,?_⟩;rw[if_pos rfl,Z0G];walk_at "r"
  by_cases hy:y∈g.sides
  ·refine Zt (by rw[decide_eq_true hy];simp) ?_;walk_at "r";exact k1 hy
  ·refine Y1 (by rw[decide_eq_false hy];rfl) ?_;walk_at "r";exact⟨by decide,k2 hy⟩
theorem Z3j (T:Txt K mg A):FnOk P w K mg base (CX1 P w) 1 A.ZcW A.ZcI ["page","name"] (Z5l A):=by
 refine T.ZcX.okX Z3g (λvs H Q E h=>?_) (λcdv A' outer s H vs Q E hr h=>?_)
 ·obtain⟨pg,sn,dl,g,y,rfl,_⟩:=h;rfl
 ·obtain⟨pg,sn,dl,g,y,rfl,PA,k1,k2⟩:=h;obtain⟨dp,mt,ct,kvs,h1,h2,h3,h4⟩:=PA.at';have hu1:=Ji hr;refine⟨_,(Z7 (ZD (Zm (Z4Y hu1) (pv 1) (Ze (pv 0) rfl) (by with_unfolding_all rfl)) (Z7 (Xe ZM rfl rfl T.ZeN T.ZeQ (Z0 Zb Z4))) Zq)),?_⟩;walk_at "r";refine⟨pg,_,_,_,_,rfl,h1,T.Z96,T.Z99,rfl,?_⟩;refine⟨mt,_,rfl,DGet.k (k:=.inr y) h2,?_⟩;rw[h3.has y];walk_at "r"
  by_cases hy:y∈g.men.map (·.1)
  ·refine Zt (by rw[decide_eq_true hy];simp) ?_;walk_at "r";exact k1 hy
  ·refine Y1 (by rw[decide_eq_false hy];rfl) ?_;walk_at "r";exact⟨by decide,k2 hy⟩
theorem Z3h (T:Txt K mg A):FnOk P w K mg base (CX1 P w) 1 A.Zd8 A.Zcx ["day"] (Z5f A):=by
 refine T.ZcZ.okX Z2Y (λvs H Q E h=>?_) (λcdv A' outer s H vs Q E hr h=>?_)
 ·obtain⟨d,rfl,_⟩:=h;rfl
 ·obtain⟨d,rfl,k1,k2⟩:=h;refine⟨_,(Z7 (ZD (JW (Z2z Z16 Z16 Z5 (pv 0) (Xj (i:=1000000) rfl T.Zex))) (Z7 (Xe ZM rfl rfl T.Zeg T.Zei (Z0 Zb Z4))) Zq)),?_⟩;walk_at "r"
  by_cases h1:(0:Int)≤d
  ·refine Y1 (decide_eq_true h1) ?_;walk_at "r"
   by_cases h2:d≤1000000
   ·refine Zt (by rw[decide_eq_true h2];simp) ?_;walk_at "r";exact k1 ⟨h1,h2⟩
   ·refine Y1 (by rw[decide_eq_false h2];rfl) ?_;walk_at "r";exact⟨by decide,k2 λz=>h2 z.2⟩
  ·refine Zt (λz=>h1 (of_decide_eq_true z)) ?_;walk_at "r";refine Y1 rfl ?_;walk_at "r";exact⟨by decide,k2 λz=>h1 z.1⟩
end
noncomputable def Xh (g:Pg):Deed→Option Nat
 | .take m s=>if ¬ m∈g.men.map (·.1) then some 4 else if ¬ s∈g.sides then some 3 else none
 | .word m=>if ¬ m∈g.men.map (·.1) then some 4 else none
 | .flee m=>if ¬ m∈g.men.map (·.1) then some 4 else none
noncomputable def Z70 (A:Ad):Sp:=λvs H Q E=>∃ (pg sn dl dd:Addr) (g:Pg) (d:Deed),vs=[.ref pg,.ref dd]∧PgAt A H pg sn dl g∧DeedAt H dd d∧
 (∀ i,Xh g d=some i→∀ H',Same H H'→E (.ref ((Cs A).getD i 0)) none H')∧(Xh g d=none→∀ H',Same H H'→Q .non H')
section
variable {P:Program}{w:World}{K:W.Frag}{mg:Str→Option Value}{base:Heap}{A:Ad}
theorem Z1U (T:Txt K mg A):FnOk P w K mg base (CX1 P w) 2 A.ZbH A.Zbm ["page","deed"] (Z70 A):=by
 have Zg4:=@Z3j P w K mg base A T;have Zcd:=@JQ P w K mg base A T;have Ze0:=@Z01 P w K mg base A T;refine T.ZbJ.okX Z1V (λvs H Q E h=>?_) (λcdv A' outer s H vs Q E hr h=>?_)
 ·obtain⟨pg,sn,dl,dd,g,d,rfl,_⟩:=h;rfl
 ·obtain⟨pg,sn,dl,dd,g,d,rfl,PA,hd,k1,k2⟩:=h;refine⟨_,(Z8 (ZD (Zm Yz (Zj (ixT (K:=K) rfl) (pv 1) Z5 (λ_ _=>rfl)) Zb (Zs _)) (Z8 Yn
   (Z7 Z7b)) Zq)
   (Z8 (Zl (Zc Zg4 (hr.mono (by decide)) rfl T.Zet T.ZcX.kp T.Zez .nil (Ym ZM) (Z0 (pv 0) (Z0 (Zj (ixT (K:=K) rfl) (pv 1) Z5 (λ_ _=>rfl)) Z4))))
   (Z8 (ZD (Zm Yz (Zj (ixT (K:=K) rfl) (pv 1) Z5 (λ_ _=>rfl)) Zb (Zs _)) (Z7 (Zl (Zc Zcd (hr.mono (by decide)) rfl T.ZcF T.Zb1.kp T.ZcC .nil (Ym ZM) (Z0 (pv 0) (Z0 (Zj (ixT (K:=K) rfl) (pv 1) Z5 (λ_ _=>rfl)) Z4))))) Zq)
   (Z7 (ZD (Zm Yz (Zj (ixT (K:=K) rfl) (pv 1) Z5 (λ_ _=>rfl)) Zb (Zs _)) (Z7 Yn) Zq))))),?_⟩
  cases d with
  | take m x=>
    walk_at "r";refine⟨dd,_,0,_,rfl,rfl,SqT.of hd,rfl,?_⟩;walk_at "r";refine⟨rfl,?_⟩;rw[Y2];walk_at "r";refine Zt (by decide) ?_;walk_at "r";refine⟨dd,_,1,_,rfl,rfl,SqT.of hd,rfl,?_⟩;walk_at "r";refine⟨pg,sn,dl,g,m,rfl,PA,λhm=>?_,λhm=>k1 4 (by unfold Xh;dsimp only;rw[if_pos hm]) H (Same.refl H)⟩;walk_at "r";refine⟨dd,_,0,_,rfl,rfl,SqT.of hd,rfl,?_⟩;walk_at "r";refine⟨rfl,?_⟩;rw[Y2];walk_at "r";refine Y1 (by decide) ?_;walk_at "r";refine⟨dd,_,2,_,rfl,rfl,SqT.of hd,rfl,?_⟩;walk_at "r";refine⟨pg,sn,dl,g,x,rfl,PA,λhx=>?_,λhx=>k1 3 (by unfold Xh;dsimp only;rw[if_neg (by simpa using hm),if_pos hx]) H (Same.refl H)⟩;walk_at "r";refine⟨dd,_,0,_,rfl,rfl,SqT.of hd,rfl,?_⟩;walk_at "r";refine⟨rfl,?_⟩;rw[Y2];walk_at "r";refine Zt (by decide) ?_;walk_at "r";exact k2 (by unfold Xh;dsimp only;rw[if_neg (by simpa using hm),if_neg (by simpa using hx)]) H (Same.refl H)
  | word m=>
    walk_at "r";refine⟨dd,_,0,_,rfl,rfl,SqT.of hd,rfl,?_⟩;walk_at "r";refine⟨rfl,?_⟩;rw[Y2];walk_at "r";refine Zt (by decide) ?_;walk_at "r";refine⟨dd,_,1,_,rfl,rfl,SqT.of hd,rfl,?_⟩;walk_at "r";refine⟨pg,sn,dl,g,m,rfl,PA,λhm=>?_,λhm=>k1 4 (by unfold Xh;dsimp only;rw[if_pos hm]) H (Same.refl H)⟩;walk_at "r";refine⟨dd,_,0,_,rfl,rfl,SqT.of hd,rfl,?_⟩;walk_at "r";refine⟨rfl,?_⟩;rw[Y2];walk_at "r";refine Zt (by decide) ?_;walk_at "r";refine⟨dd,_,0,_,rfl,rfl,SqT.of hd,rfl,?_⟩;walk_at "r";refine⟨rfl,?_⟩;rw[Y2];walk_at "r";refine Zt (by decide) ?_;walk_at "r";exact k2 (by unfold Xh;dsimp only;rw[if_neg (by simpa using hm)]) H (Same.refl H)
  | flee m=>
    walk_at "r";refine⟨dd,_,0,_,rfl,rfl,SqT.of hd,rfl,?_⟩;walk_at "r";refine⟨rfl,?_⟩;rw[Y2];walk_at "r";refine Zt (by decide) ?_;walk_at "r";refine⟨dd,_,1,_,rfl,rfl,SqT.of hd,rfl,?_⟩;walk_at "r";refine⟨pg,sn,dl,g,m,rfl,PA,λhm=>?_,λhm=>k1 4 (by unfold Xh;dsimp only;rw[if_pos hm]) H (Same.refl H)⟩;walk_at "r";refine⟨dd,_,0,_,rfl,rfl,SqT.of hd,rfl,?_⟩;walk_at "r";refine⟨rfl,?_⟩;rw[Y2];walk_at "r";refine Zt (by decide) ?_;walk_at "r";refine⟨dd,_,0,_,rfl,rfl,SqT.of hd,rfl,?_⟩;walk_at "r";refine⟨rfl,?_⟩;rw[Y2];walk_at "r";refine Zt (by decide) ?_;walk_at "r";exact k2 (by unfold Xh;dsimp only;rw[if_neg (by simpa using hm)]) H (Same.refl H)
end
inductive RunM (nm:Str):Ms→List (Int×Int×Deed)→Ms→Prop
 | nil {m:Ms}:RunM nm m [] m
 | cons {m m1 m2:Ms}{n day:Int}{d:Deed}{r:List (Int×Int×Deed)}:ZQ d=nm→m.dead=false→StepM day m d m1→RunM nm m1 r m2→RunM nm m ((n,day,d)::r) m2
noncomputable def Z5g (A:Ad):Sp:=λvs H Q E=>∃ (mu dd:Addr) (n day:Int),vs=[.ref mu,.int n,.int day,.ref dd]∧Z5w A [.ref mu,.int day,.ref dd] H (λ_ H'=>Q .non H') E
noncomputable def RunG (ms:Ja)(ds:List (Int×Int×Deed)):Prop:=(∀ d∈ds,∃ m,(ZQ d.2.2,m)∈ms)∧∀ nm m,(nm,m)∈ms→∃ m2,RunM nm m (ds.filter λd=>decide (ZQ d.2.2=nm)) m2
theorem RunG.step {ms:Ja}{n day:Int}{d:Deed}{r:List (Int×Int×Deed)}(nd:(ms.map (·.1)).Nodup)(h:RunG ms ((n,day,d)::r)):∃ i m m1,ms[i]? = some (ZQ d,m)∧m.dead=false∧StepM day m d m1∧RunG (ms.set i (ZQ d,m1)) r:=by
 obtain⟨m,hm⟩:=h.1 (n,day,d) (by simp);obtain⟨i,hi⟩:=List.mem_iff_getElem?.mp hm;have li:i < ms.length:=(List.getElem?_eq_some_iff.mp hi).1;obtain⟨m2,run⟩:=h.2 _ _ hm;rw[List.filter_cons_of_pos (by simp)] at run;cases run with
 | @cons _ m1 _ _ _ _ _ e1 e2 e3 e4=>
 refine⟨i,m,m1,hi,e2,e3,λd2 hd2=>?_,λnm m' hm'=>?_⟩
 ·obtain⟨m3,h3⟩:=h.1 d2 (by simp[hd2]);obtain⟨j,hj⟩:=List.mem_iff_getElem?.mp h3
  by_cases ij:i=j
  ·subst ij;rw[hi] at hj;have en:ZQ d=ZQ d2.2.2:=congrArg Prod.fst (Option.some.inj hj);exact⟨m1,by rw[←en];exact List.mem_iff_getElem?.mpr ⟨i,List.getElem?_set_self li⟩⟩
  ·exact⟨m3,List.mem_iff_getElem?.mpr ⟨j,by rw[List.getElem?_set_ne ij];exact hj⟩⟩
 ·obtain⟨j,hj⟩:=List.mem_iff_getElem?.mp hm'
  by_cases ij:i=j
  ·subst ij;rw[List.getElem?_set_self li] at hj;obtain⟨rfl,rfl⟩:=Prod.mk.inj (Option.some.inj hj);exact⟨m2,e4⟩
  ·rw[List.getElem?_set_ne ij] at hj;obtain⟨m4,run4⟩:=h.2 nm m' (List.mem_of_getElem? hj);have nn:¬ ZQ d=nm:=λz=>ij (YZ nd (a:=nm) (by rw[List.getElem?_map,hi];exact congrArg some z) (by rw[List.getElem?_map,hj];rfl));rw[List.filter_cons_of_neg (by simpa using nn)] at run4;exact⟨m4,run4⟩
noncomputable def Z6s (A:Ad):Sp:=λvs H Q _=>∃ (pg sn dl:Addr) (g:Pg) (told:Int),vs=[.ref pg,.int told]∧PgAt A H pg sn dl g∧(g.men.map (·.1)).Nodup∧g.men.length≤100∧RunG (g.men.map ZV) g.deeds∧∀ H',Same H H'→Q .non H'
section
variable {P:Program}{w:World}{K:W.Frag}{mg:Str→Option Value}{base:Heap}{A:Ad}
theorem Z3B {A:Ad}{B H:Hp}{mu ct dd:Addr}{men:Ja}{ps:List (Addr×Addr)}{i:Nat}{m m1:Ms}{day:Int}{d:Deed}{Q:VK}{E:XK}(M:MusterAt A B H mu ct men ps [])(hd:DeedAt H dd d)(em:men[i]? = some (ZQ d,m))(hdead:m.dead=false)(st:StepM day m d m1)
 (k:∀ H' ps',MusterAt A B H' mu ct (men.set i (ZQ d,m1)) ps' []→Q .non H'):Z5w A [.ref mu,.int day,.ref dd] H Q E:=
 ⟨B,mu,ct,dd,men,ps,[],day,i,ZQ d,m,m1,d,rfl,trivial,rfl,M,hd,em,hdead,st,λH' ps' M'=>k H' ps' M'⟩
theorem Z1b (T:Txt K mg A)(TD:DictF w K A.Z9e (ZI A)):FnOk P w K mg base CX0 5 A.Zbd A.ZaQ ["muster","number","day","deed"] (Z5g A):=by
 have ZdF:=@Z14 P w K mg base A T TD;refine T.Zbe.ok Z1k (λvs H Q E h=>?_) (λcdv A' outer s H vs Q E hr h=>?_)
 ·obtain⟨mu,dd,n,day,rfl,_⟩:=h;rfl
 ·obtain⟨mu,dd,n,day,rfl,k⟩:=h;refine⟨_,(Z7 (Z78 (Z7 (Zl (Zc ZdF (hr.mono (by decide)) rfl T.ZdJ T.Zc7.kp T.ZdB .nil Zg (Z0 (pv 0) (Z0 (pv 2) (Z0 (pv 3) Z4)))))))),?_⟩;walk_at "r";exact k
theorem Jl (T:Txt K mg A)(TD:DictF w K A.Z9e (ZI A)):FnOk P w K mg base CX0 6 A.ZaN A.ZaG ["page","told"] (Z6s A):=by
 have ZdF:=@Z14 P w K mg base A T TD;have Zfa:=@Z1b P w K mg base A T TD;have Zfb:=@Z19 P w K mg base A T;refine T.Za5.ok Z9E (λvs H Q E h=>?_) (λcdv A' outer s H vs Q E hr h=>?_)
 ·obtain⟨pg,sn,dl,g,told,rfl,_⟩:=h;rfl
 ·obtain⟨pg,sn,dl,g,told,rfl,PA,nd,h100,run,k⟩:=h;obtain⟨dp,mt,ct,kvs,h1,h2,h3,h4⟩:=PA.at';obtain⟨es,f1,f2,f3⟩:=PA.hd;refine⟨_,(Z8 (Zi (i:=2) Z9E.nd rfl (Or.inl rfl) (XY T.ZeY Zfb (hr.mono (by decide)) rfl T.Zfz T.Zdh .nil Zg (Z0 (Ze (pv 0) rfl) (Z0 (Ze (pv 0) rfl) Z4))))
   (Z7 (XJ PassesOwn.never rfl (piL (K:=K) rfl (Ze (pv 0) rfl)) (pgT (K:=K) (n:=3) rfl rfl (Y8 (Zu (i:=3) Z9E.nd rfl (Or.inl rfl)) (Y8 (Zu (i:=4) Z9E.nd rfl (Or.inl rfl)) (Y8 (Zu (i:=5) Z9E.nd rfl (Or.inl rfl)) Jz)))) (Z7 (ZD (Zm Yz (pv 3) (pv 1) (Zs _)) (Z7 (Zl (Zc ZdF (hr.mono (by decide)) rfl T.ZdJ T.Zc7.kp T.ZdB .nil Zg (Z0 (pv 2) (Z0 (pv 4) (Z0 (pv 5) Z4)))))) (Z7 (Zl (Zc Zfa (hr.mono (by decide)) rfl T.Zdj T.Zbe.kp T.Zdf .nil Zg (Z0 (pv 2) (Z0 (pv 3) (Z0 (pv 4) (Z0 (pv 5) Z4)))))))))))),?_⟩
  walk_at "r";refine⟨pg,_,_,_,_,rfl,h1,T.Z96,T.Z99,rfl,?_⟩;walk_at "r";refine⟨pg,_,_,_,_,rfl,h1,T.Z96,T.Z9n,rfl,?_⟩;walk_at "r";intro mu dmu hmu hdmu nemu;refine⟨H,mu,dmu,mt,ct,kvs,g.men,rfl,λd o2 e2=>?_,hmu,Z1,h2,h3,nd,h100,λH1 ps M=>⟨rfl,?_⟩⟩
  ·rw[Z2 (Z6 e2 hmu),Z2 (Z6 e2 hdmu)];exact e2
  ·walk_at "r";refine⟨_,rfl,pg,_,_,_,_,rfl,M.same _ _ h1,T.Z96,T.Z9a,rfl,dl,rfl,⟨_,SqL.of (M.same _ _ f1)⟩,?_⟩;refine Z1w (K:=K) (a:=dl) (xs:=es.map V.ref) (λi σ2 H2=>(∃ men ps,MusterAt A H H2 mu ct men ps []∧RunG men (g.deeds.drop i))∧∃ u1 u2 u3,σ2=[some (.ref pg),some (.int told),some (.ref mu),u1,u2,u3]) ⟨⟨_,ps,M,by simpa using run⟩,none,none,none,rfl⟩ (λi σ2 H2 _ q=>let ⟨⟨_,_,M2,_⟩,_⟩:=q;SqL.of (M2.same _ _ f1)) ?_ ?_
   ·rintro i v σ2 H2 ei ⟨⟨m0,ps2,M2,rn⟩,u1,u2,u3,rfl⟩;rw[List.getElem?_map] at ei;obtain⟨e,ee,rfl⟩:=Option.map_eq_some_iff.mp ei;have li:i < g.deeds.length:=by rw[←f2];exact (List.getElem?_eq_some_iff.mp ee).1
    obtain⟨n,day,d,ed⟩:∃ n day d,g.deeds[i]? = some (n,day,d):=⟨g.deeds[i].1,g.deeds[i].2.1,g.deeds[i].2.2,by simp[li]⟩;obtain⟨e',dd,a1,a2,a3⟩:=f3 i _ ed;rw[ee] at a1;cases a1;have hdrop:g.deeds.drop i=(n,day,d)::g.deeds.drop (i + 1):=by
     rw[List.drop_eq_getElem_cons li]
     congr 1
     obtain⟨_,z⟩:=List.getElem?_eq_some_iff.mp ed;exact z
    rw[hdrop] at rn;obtain⟨ix,mm,m1,em,hdead,st,rr⟩:=rn.step M2.names;refine⟨e,_,rfl,SqT.of (M2.same _ _ a2),rfl,_,[.int day,.ref dd],rfl,_,[.ref dd],rfl,_,[],rfl,rfl,?_⟩;walk_at "r"
    by_cases ht:n=told
    ·refine Y1 (decide_eq_true ht) ?_;walk_at "r";exact Z3B M2 (a3.same M2.same) em hdead st λH' ps' M'=>⟨⟨_,ps',M',rr⟩,_,_,_,rfl⟩
    ·refine Zt (λz=>ht (of_decide_eq_true z)) ?_;walk_at "r";exact⟨mu,dd,n,day,rfl,Z3B M2 (a3.same M2.same) em hdead st λH' ps' M'=>⟨⟨_,ps',M',rr⟩,_,_,_,rfl⟩⟩
   ·rintro σ2 H2 ⟨⟨m0,ps2,M2,rn⟩,u1,u2,u3,rfl⟩;exact k H2 M2.same
theorem Xt (T:Txt K mg A):FnOk P w K mg base CX0 1 A.Za8 A.ZbL ["self","side_names","man_table","cartel_table","deed_list","next_number"] (Z3T A):=by
 refine T.Ze7.ok Z2u (λvs H Q E h=>?_) (λcdv A' outer s H vs Q E hr h=>?_)
 ·obtain⟨x,dx,sn,mt,ct,dl,n,rfl,_⟩:=h;rfl
 ·obtain⟨x,dx,sn,mt,ct,dl,n,rfl,hx,k⟩:=h;refine⟨_,(Z8 (Y0 (pv 0) (pv 1) rfl)
   (Z8 (Y0 (pv 0) (pv 2) rfl)
   (Z8 (Y0 (pv 0) (pv 3) rfl)
   (Z8 (Y0 (pv 0) (pv 4) rfl)
   (Z7 (Y0 (pv 0) (pv 5) rfl)))))),?_⟩
  walk_at "r";refine⟨x,_,dx,_,rfl,hx,T.Z96,T.Z9b,by decide,?_⟩;walk_at "r";refine⟨x,_,dx,_,rfl,Z1,T.Z96,T.Z99,(show 1 < 1000 by decide),?_⟩;walk_at "r";refine⟨x,_,dx,_,rfl,Z1,T.Z96,T.Z9n,(show 2 < 1000 by decide),?_⟩;walk_at "r";refine⟨x,_,dx,_,rfl,Z1,T.Z96,T.Z9a,(show 3 < 1000 by decide),?_⟩;walk_at "r";refine⟨x,_,dx,_,rfl,Z1,T.Z96,T.Z9i,(show 4 < 1000 by decide),?_⟩;walk_at "r";rw[Y3,Y3,Y3,Y3];exact k
theorem Z17 {A:Ad}{H:Hp}{x dx sn mt ct dl:Addr}{g:Pg}{kvs:List (Key×V)}(hx:H x=none)(hdx:H dx=none)(ne:dx≠x)(h1:H sn=some (.lst (g.sides.map V.str)))(h2:H mt=some (.dK kvs))(h3:Men H kvs g.men)(h4:CtAt H ct g.cart)(h5:DlAt H dl g.deeds) :
 Same H (upd (upd (upd H dx (.own x)) x (.ins A.Z98 dx [])) x (.ins A.Z98 dx (Z0m sn mt (.ref ct) (.ref dl) g.next)))∧PgAt A (upd (upd (upd H dx (.own x)) x (.ins A.Z98 dx [])) x (.ins A.Z98 dx (Z0m sn mt (.ref ct) (.ref dl) g.next))) x sn dl g:=by
 have s:Same H (upd (upd (upd H dx (.own x)) x (.ins A.Z98 dx [])) x (.ins A.Z98 dx (Z0m sn mt (.ref ct) (.ref dl) g.next))):=λc o e=>by
  rw[Z2 (Z6 e hx),Z2 (Z6 e hx),Z2 (Z6 e hdx)];exact e
 exact⟨s,⟨⟨dx,mt,ct,kvs,Z1,s _ _ h2,h3.same λp xs e=>s _ _ e,h4.same s⟩,s _ _ h1,h5.same s⟩⟩
noncomputable def Z6l (A:Ad):Sp:=λvs H Q _=>vs=[]∧∀ (pg sn dl:Addr) (H':Hp),H sn=none→H dl=none→Same H H'→PgAt A H' pg sn dl ⟨[],[],none,[],1⟩→Q (.ref pg) H'
noncomputable def Z37 (A:Ad):Sp:=λvs H Q E=>∃ (pg sn dl:Addr) (g:Pg) (z:Str),vs=[.ref pg,.str z]∧z.cps.size≤1000∧g.sides.length≤900∧PgAt A H pg sn dl g∧
 (∀ i,X9 g.sides z=some i→∀ H',Same H H'→E (.ref ((Cs A).getD i 0)) none H')∧(X9 g.sides z=none→∀ (pg' sn':Addr) (H':Hp),H sn'=none→Same H H'→PgAt A H' pg' sn' dl { g with sides:=g.sides++[z] }→Q (.ref pg') H')
noncomputable def Z4d (A:Ad):Sp:=λvs H Q E=>∃ (pg sn dl:Addr) (g:Pg) (z y:Str) (r:Int),vs=[.ref pg,.str z,.str y,.int r]∧z.cps.size≤1000∧g.men.length≤900∧PgAt A H pg sn dl g∧
 (∀ i,Ya g.sides g.men z y r=some i→∀ H',Same H H'→E (.ref ((Cs A).getD i 0)) none H')∧(Ya g.sides g.men z y r=none→∀ (pg':Addr) (H':Hp),Same H H'→PgAt A H' pg' sn dl { g with men:=g.men++[(z,y,r)] }→Q (.ref pg') H')
theorem Z1g (T:Txt K mg A):FnOk P w K mg base CX0 3 A.ZbD A.Zbb [] (Z6l A):=by
 have Z9L:=@Xt P w K mg base A T;refine T.ZbM.ok Z1Q (λvs H Q E h=>?_) (λcdv A' outer s H vs Q E hr h=>?_)
 ·obtain⟨rfl,_⟩:=h;rfl
 ·obtain⟨rfl,k⟩:=h;refine⟨_,(Z7 (Zo (XY T.ZcR Z9L (hr.mono (by decide)) rfl T.Zdn T.Zag .nil Zg (Z0 (ZL Z4) (Z0 Z0w (Z0 Z2i (Z0 (ZL Z4) (Z0 Z5 Z4)))))))),?_⟩;walk_at "r";refine⟨by show 0≤sizeLine;decide,λsn hsn=>?_⟩;walk_at "r";intro mt hmt;have s1:=(Same.new hsn (HO.lst [])).trans (Same.new hmt (HO.dK []));walk_at "r";intro ca hca;walk_at "r";refine⟨by show 0≤sizeLine;decide,λde hde=>?_⟩;have s2:=(Same.new hca (HO.dT [])).trans (Same.new hde (HO.lst []));have hde0:=(s1.trans (Same.new hca (HO.dT []))).free hde;walk_at "r";intro x dx hx hdx ne;have e1:=s2 _ _ (Same.new hmt (HO.dK []) _ _ (Z1 (H:=H) (a:=sn) (o:=.lst [])));have e2:=s2 _ _ (Z1 (H:=upd H sn (.lst [])) (a:=mt) (o:=.dK []));have e3:=(Same.new hde (HO.lst [])) _ _ (Z1 (H:=upd (upd H sn (.lst [])) mt (.dK [])) (a:=ca) (o:=.dT []));obtain⟨s3,pa⟩:=Z17 (A:=A) (g:=⟨[],[],none,[],1⟩) (ct:=ca) (dl:=de) hx hdx ne e1 e2 Men.nil e3 ⟨[],Z1,rfl,λi d z=>by simp at z⟩;refine⟨x,dx,sn,mt,.ref ca,.ref de,1,rfl,Z1,rfl,?_⟩;exact k x sn de _ hsn hde0 (s1.trans (s2.trans s3)) pa
theorem Z1O (T:Txt K mg A):FnOk P w K mg base (CX1 P w) 4 A.ZcK A.ZbG ["page","name"] (Z37 A):=by
 have Z9L:=@Xt P w K mg base A T;have Zaw:=@Jc P w K mg base A T;have Zab:=@Jh P w K mg base A T;refine T.Zcm.okX Z25 (λvs H Q E h=>?_) (λcdv A' outer s H vs Q E hr h=>?_)
 ·obtain⟨pg,sn,dl,g,z,rfl,_⟩:=h;rfl
 ·obtain⟨pg,sn,dl,g,z,rfl,hz,hzs,PA,k1,k2⟩:=h;obtain⟨dp,mt,ct,kvs,h1,h3,h4,h5⟩:=PA.at';have h2:=PA.hs;refine⟨_,(Z8 (Zl (Zc Zaw (hr.mono (by decide)) rfl T.Zaq T.Za0.kp T.Zap .nil (Ym ZM) (Z0 (pv 1) (Z0 (Ze (pv 0) rfl) Z4))))
   (Z8 (Zl (Zc Zab (hr.mono (by decide)) rfl T.Zb0 T.Zaa.kp T.ZaW .nil (Ym ZM) (Z0 (Zh (Z05 (K:=K) rfl) rfl T.ZaF PySem.boot_len (Z0 (Ze (pv 0) rfl) Z4)) (Z0 (Xj (i:=6) rfl T.ZdK) Z4))))
   (Z7 (Zo (XY T.ZcR Z9L (hr.mono (by decide)) rfl T.Zdn T.Zag .nil Zg (Z0 (Zd X2 (Ze (pv 0) rfl) (ZL (Z0 (pv 1) Z4))) (Z0 (Ze (pv 0) rfl) (Z0 (Ze (pv 0) rfl) (Z0 (Ze (pv 0) rfl) (Z0 (Ze (pv 0) rfl) Z4)))))))))),?_⟩
  walk_at "r";refine⟨pg,_,_,_,_,rfl,h1,T.Z96,T.Z9b,rfl,?_⟩;walk_at "r";refine⟨z,sn,decide (z∈g.sides),rfl,hz,λH' s'=>.inl ⟨g.sides,SqL.of (s' _ _ h2),rfl⟩,λe H1 s1=>?_,λe b H1 s1=>?_,λe b H1 s1=>?_⟩
  ·exact k1 0 (by unfold X9;rw[if_pos e]) H1 s1
  ·exact k1 1 (by unfold X9;rw[if_neg (by rw[e];simp),if_pos (of_decide_eq_true b)]) H1 s1
  ·have nz:¬ z∈g.sides:=of_decide_eq_false b;walk_at "r";refine⟨pg,_,_,_,_,rfl,s1 _ _ h1,T.Z96,T.Z9b,rfl,?_⟩;walk_at "r";refine⟨sn,_,rfl,.inl (SqL.of (s1 _ _ h2)),?_⟩;walk_at "r";rw[List.length_map];refine⟨_,_,rfl,λhlt=>?_,λhge=>?_⟩
   ·walk_at "r";refine⟨pg,_,_,_,_,rfl,s1 _ _ h1,T.Z96,T.Z9b,rfl,?_⟩;walk_at "r";refine⟨by show 1≤sizeLine;decide,λq hq=>?_⟩;have s2:=Same.new hq (HO.lst [.str z]);refine⟨sn,q,_,_,rfl,rfl,s2 _ _ (s1 _ _ h2),Z1,ZC (by rw[List.length_map];show g.sides.length + 1≤1000;omega),λsn' hsn'=>?_⟩;have s3:=Same.new hsn' (HO.lst (g.sides.map V.str++[.str z]));have S3:=s1.trans (s2.trans s3);walk_at "r";refine⟨pg,_,_,_,_,rfl,S3 _ _ h1,T.Z96,T.Z99,rfl,?_⟩;walk_at "r";refine⟨pg,_,_,_,_,rfl,S3 _ _ h1,T.Z96,T.Z9n,rfl,?_⟩;walk_at "r";refine⟨pg,_,_,_,_,rfl,S3 _ _ h1,T.Z96,T.Z9a,rfl,?_⟩;walk_at "r";refine⟨pg,_,_,_,_,rfl,S3 _ _ h1,T.Z96,T.Z9i,rfl,?_⟩;walk_at "r";intro x dx hx hdx ne;obtain⟨s4,pa⟩:=Z17 (A:=A) (g:={ g with sides:=g.sides++[z] }) (ct:=ct) (dl:=dl) hx hdx ne (sn:=sn') (by rw[Z1,List.map_append];rfl) (S3 _ _ h3) (h4.same λp xs e=>S3 _ _ e) (h5.same S3) (PA.hd.same S3);refine⟨x,dx,sn',mt,.ref ct,.ref dl,g.next,rfl,Z1,rfl,?_⟩;exact k2 (by unfold X9;rw[if_neg (by rw[e];simp),if_neg nz,if_neg (by omega)]) x sn' _ ((s1.trans s2).free hsn') (S3.trans s4) pa
   ·exact k1 2 (by unfold X9;rw[if_neg (by rw[e];simp),if_neg nz,if_pos (by omega)]) H1 s1
theorem Z26 (T:Txt K mg A):FnOk P w K mg base (CX1 P w) 4 A.Zd9 A.Zcy ["page","name","side","rank"] (Z4d A):=by
 have Z9L:=@Xt P w K mg base A T;have Zaw:=@Jc P w K mg base A T;have Zab:=@Jh P w K mg base A T;have Ze0:=@Z01 P w K mg base A T;have Zcd:=@JQ P w K mg base A T;refine T.Zd5.okX ZdW (λvs H Q E h=>?_) (λcdv A' outer s H vs Q E hr h=>?_)
 ·obtain⟨pg,sn,dl,g,z,y,r,rfl,_⟩:=h;rfl
 ·obtain⟨pg,sn,dl,g,z,y,r,rfl,hz,hms,PA,k1,k2⟩:=h;obtain⟨dp,mt,ct,kvs,h1,h3,h4,h5⟩:=PA.at';have h2:=PA.hs;have hu1:=Ji hr;refine⟨_,(Z8 (Zl (Zc Zaw (hr.mono (by decide)) rfl T.Zaq T.Za0.kp T.Zap .nil (Ym ZM) (Z0 (pv 1) (Z0 (Ze (pv 0) rfl) Z4))))
   (Z8 (Zl (Zc Zcd (hr.mono (by decide)) rfl T.ZcF T.Zb1.kp T.ZcC .nil (Ym ZM) (Z0 (pv 0) (Z0 (pv 2) Z4))))
   (Z8 (Zl (Zc Ze0 (hr.mono (by decide)) rfl T.ZdR T.Zcu.kp T.ZdN .nil (Ym ZM) (Z0 (pv 3) Z4)))
   (Z8 (Zl (Zc Zab (hr.mono (by decide)) rfl T.Zb0 T.Zaa.kp T.ZaW .nil (Ym ZM) (Z0 (Zh Z4H rfl T.ZaF PySem.boot_len (Z0 (Ze (pv 0) rfl) Z4)) (Z0 (Xj (i:=40) rfl T.Zey) Z4))))
   (Z8 (Zi (i:=4) ZdW.nd rfl (Or.inl rfl) (Z0g Z3H rfl T.Zga PyProof.Rows.boot_dict (Z0 (Ze (pv 0) rfl) Z4)))
   (Z8 (Z0r hu1 (pv 4) (pv 1) (ZF (Z0 (pv 2) (Z0 (pv 3) Z4))) rfl)
   (Z7 (Zo (XY T.ZcR Z9L (hr.mono (by decide)) rfl T.Zdn T.Zag .nil Zg (Z0 (Ze (pv 0) rfl) (Z0 (pv 4) (Z0 (Ze (pv 0) rfl) (Z0 (Ze (pv 0) rfl) (Z0 (Ze (pv 0) rfl) Z4)))))))))))))),?_⟩
  walk_at "r";refine⟨pg,_,_,_,_,rfl,h1,T.Z96,T.Z99,rfl,?_⟩;walk_at "r";refine⟨z,mt,decide (z∈g.men.map (·.1)),rfl,hz,λH' s'=>.inr ⟨_,DGet.k (k:=.inr z) (s' _ _ h3),(h4.has z).symm⟩,λe0 H1 s1=>?_,λe0 b H1 s1=>?_,λe0 b H1 s1=>?_⟩
  ·exact k1 0 (by unfold Ya;rw[if_pos e0]) H1 s1
  ·exact k1 1 (by unfold Ya;rw[if_neg (by rw[e0];simp),if_pos (of_decide_eq_true b)]) H1 s1
  ·have nz:¬ z∈g.men.map (·.1):=of_decide_eq_false b;walk_at "r";refine⟨pg,sn,dl,g,y,rfl,PA.same s1,λhy=>?_,λhy=>?_⟩
   ·walk_at "r";refine⟨r,rfl,λhrk=>?_,λhrk=>?_⟩
    ·walk_at "r";refine⟨pg,_,_,_,_,rfl,s1 _ _ h1,T.Z96,T.Z99,rfl,?_⟩;walk_at "r";refine⟨mt,kvs,rfl,s1 _ _ h3,?_⟩;walk_at "r";rw[h4.1];refine⟨_,_,rfl,λhlt=>?_,λhge=>?_⟩
     ·walk_at "r";refine⟨pg,_,_,_,_,rfl,s1 _ _ h1,T.Z96,T.Z99,rfl,?_⟩;walk_at "r";refine⟨mt,kvs,rfl,Rd.of (s1 _ _ h3),λmt' hmt'=>?_⟩;have s2:=Same.new hmt' (HO.dK kvs);walk_at "r";refine⟨by show 2≤sizeLine;decide,λtp htp=>?_⟩;have s3:=Same.new htp (HO.tup [.str y,.int r]);walk_at "r";refine⟨mt',_,rfl,DPut.k (k:=.inr z) (s3 _ _ Z1) (ZR (by rw[h4.1];omega)),?_⟩;rw[Z2e _ (by
       have e:=h4.has z;rw[decide_eq_false nz] at e;cases q:ZP kvs (.inr z) with
       | none=>rfl
       | some v=>rw[q] at e;cases e)]
      have mt1:H1 mt'=none:=hmt';have S4:Same H (upd (upd (upd H1 mt' (.dK kvs)) tp (.tup [.str y,.int r])) mt' (.dK (kvs++[(.inr z,.ref tp)]))):=λc o e=>by
       have e1:=s1 _ _ e;rw[Z2 (Z6 e1 mt1)];exact s3 _ _ (s2 _ _ e1)
      have etp:(upd (upd (upd H1 mt' (.dK kvs)) tp (.tup [.str y,.int r])) mt' (.dK (kvs++[(.inr z,.ref tp)]))) tp=some (.tup [.str y,.int r]):=by
       rw[Z2 (Ne.symm (Z6 Z1 htp)),Z1]
      have emt:(upd (upd (upd H1 mt' (.dK kvs)) tp (.tup [.str y,.int r])) mt' (.dK (kvs++[(.inr z,.ref tp)]))) mt'=some (.dK (kvs++[(.inr z,.ref tp)])):=Z1;have M4:=(h4.same (H':=upd (upd (upd H1 mt' (.dK kvs)) tp (.tup [.str y,.int r])) mt' (.dK (kvs++[(.inr z,.ref tp)]))) λp xs e=>S4 _ _ e).snoc (x:=z) etp;generalize upd (upd (upd H1 mt' (.dK kvs)) tp (.tup [.str y,.int r])) mt' (.dK (kvs++[(.inr z,.ref tp)]))=H5 at S4 emt M4 ⊢;walk_at "r";refine⟨pg,_,_,_,_,rfl,S4 _ _ h1,T.Z96,T.Z9b,rfl,?_⟩;walk_at "r";refine⟨pg,_,_,_,_,rfl,S4 _ _ h1,T.Z96,T.Z9n,rfl,?_⟩;walk_at "r";refine⟨pg,_,_,_,_,rfl,S4 _ _ h1,T.Z96,T.Z9a,rfl,?_⟩;walk_at "r";refine⟨pg,_,_,_,_,rfl,S4 _ _ h1,T.Z96,T.Z9i,rfl,?_⟩;walk_at "r";intro x dx hx hdx ne;obtain⟨s6,pa⟩:=Z17 (A:=A) (g:={ g with men:=g.men++[(z,y,r)] }) (ct:=ct) (dl:=dl) hx hdx ne (S4 _ _ h2) emt M4 (h5.same S4) (PA.hd.same S4);refine⟨x,dx,sn,mt',.ref ct,.ref dl,g.next,rfl,Z1,rfl,?_⟩;exact k2 (by unfold Ya;rw[if_neg (by rw[e0];simp),if_neg nz,if_neg (by simpa using hy),if_neg (by simpa using hrk),if_neg (by omega)]) x _ (S4.trans s6) pa
     ·exact k1 2 (by unfold Ya;rw[if_neg (by rw[e0];simp),if_neg nz,if_neg (by simpa using hy),if_neg (by simpa using hrk),if_pos (by omega)]) H1 s1
    ·exact k1 5 (by unfold Ya;rw[if_neg (by rw[e0];simp),if_neg nz,if_neg (by simpa using hy),if_pos hrk]) H1 s1
   ·exact k1 3 (by unfold Ya;rw[if_neg (by rw[e0];simp),if_neg nz,if_pos hy]) H1 s1
end
theorem Z4R (zs:List Int):(zs.map V.int).all XG=true:=by
 rw[List.all_map,List.all_eq_true];intro x _;rfl
theorem Z67 (z:Int)(zs:List Int):inV (.int z) (zs.map V.int)=decide (z∈zs):=by
 unfold inV;rw[List.any_map,Bool.eq_iff_iff,List.any_eq_true,decide_eq_true_iff];constructor
 ·rintro⟨y,hy,e⟩;have:y=z:=by simpa [eqV] using e
  rw[←this];exact hy
 ·intro h;exact⟨z,h,by simp[eqV]⟩
noncomputable abbrev Ent:=Int×Int×Deed
noncomputable def Z1a (ds:List Ent):List (Int×Int):=ds.map λd=>(d.2.1,d.1)
noncomputable def DLt (a b:Ent):Prop:=a.2.1 < b.2.1∨(a.2.1=b.2.1∧a.1 < b.1)
theorem Jg {ds:List Ent}{i:Nat}{d:Ent}(h:ds[i]? = some d):(Z1a ds).getD i (0,0)=(d.2.1,d.1):=by
 unfold Z1a;rw[List.getD_eq_getElem?_getD,List.getElem?_map,h];rfl
theorem Z3v {ds:List Ent}{i j:Nat}{a b:Ent}(hi:ds[i]? = some a)(hj:ds[j]? = some b)(h:DLt a b):ltK (Z1a ds) i j=true:=by
 unfold ltK;rw[Jg hi,Jg hj];dsimp only
 rcases h with h|⟨h1,h2⟩
 ·simp[h]
 ·simp[h1,h2]
theorem Z5j {ds:List Ent}{i j:Nat}{a b:Ent}(hi:ds[i]? = some a)(hj:ds[j]? = some b)(h:DLt b a):ltK (Z1a ds) i j=false:=by
 unfold ltK;rw[Jg hi,Jg hj];dsimp only
 rcases h with h|⟨h1,h2⟩
 ·have q1:¬ a.2.1 < b.2.1:=by omega
  have q2:¬ a.2.1=b.2.1:=by omega
  simp[q1,q2]
 ·have q1:¬ a.2.1 < b.2.1:=by omega
  have q2:¬ a.1 < b.1:=by omega
  simp[q1,q2]
structure SplD (us ts:List Ent)(e:Ent):Prop where
 srt:(us++ts).Pairwise DLt
 lo:∀ x∈us,DLt x e
 hi:∀ x∈ts,DLt e x
 few:us.length + ts.length < 127
theorem SplD.ins {us ts:List Ent}{e:Ent}(h:SplD us ts e):InsK (ltK (Z1a (us++ts++[e]))) us.length (us.length + ts.length):=by
 have ge:(us++ts++[e])[us.length + ts.length]? = some e:=by
  rw[List.getElem?_append_right (by simp),List.length_append,Nat.sub_self];rfl
 have gi:∀ i,i < us.length + ts.length→(us++ts++[e])[i]? = (us++ts)[i]?:=λi hi=>List.getElem?_append_left (by simpa using hi);have pw:=List.pairwise_iff_getElem.mp h.srt;refine⟨λi j ij hj=>?_,λi hi=>?_,λi hu hi=>?_,by omega⟩
 ·have l1:i < (us++ts).length:=by simp;omega
  have l2:j < (us++ts).length:=by simp;omega
  have g1:=(gi i (by omega)).trans (List.getElem?_eq_getElem l1);have g2:=(gi j hj).trans (List.getElem?_eq_getElem l2);exact⟨Z3v g1 g2 (pw i j l1 l2 ij),Z5j g2 g1 (pw i j l1 l2 ij)⟩
 ·have g1:(us++ts++[e])[i]? = some us[i]:=by rw[gi i (by omega),List.getElem?_append_left hi];exact List.getElem?_eq_getElem hi
  exact Z5j ge g1 (h.lo _ (List.getElem_mem hi))
 ·have l1:i - us.length < ts.length:=by omega
  have g1:(us++ts++[e])[i]? = some ts[i - us.length]:=by rw[gi i hi,List.getElem?_append_right hu];exact List.getElem?_eq_getElem l1
  exact Z3v ge g1 (h.hi _ (List.getElem_mem l1))
theorem Z7X {α:Type}{es:List α}{u t:Nat}(h:es.length=u + t + 1):∃ ue te a,es=ue++te++[a]∧ue.length=u∧te.length=t:=by
 have l1:u + t < es.length:=by omega
 refine⟨es.take u,(es.drop u).take t,es[u + t],?_,by simp;omega,by simp;omega⟩;have e1:es.take u++(es.drop u).take t=es.take (u + t):=by rw[List.take_add]
 rw[e1];have:=List.take_append_drop (u + t) es;rw[List.drop_eq_getElem_cons l1,List.drop_of_length_le (by omega)] at this;exact this.symm
theorem Z8F {H:Hp}{ue te:List Addr}{a:Addr}{us ts:List Ent}{e:Ent}(l1:ue.length=us.length)(l2:te.length=ts.length)
 (f:∀ (i:Nat) (d:Ent),(us++ts++[e])[i]? = some d→∃ x dd,(ue++te++[a])[i]? = some x∧H x=some (.tup [.int d.1,.int d.2.1,.ref dd])∧DeedAt H dd d.2.2) :
 ∀ (i:Nat) (d:Ent),(us++e::ts)[i]? = some d→∃ x dd,(ue++a::te)[i]? = some x∧H x=some (.tup [.int d.1,.int d.2.1,.ref dd])∧DeedAt H dd d.2.2:=by
 intro i d h
 by_cases h1:i < us.length
 ·rw[List.getElem?_append_left h1] at h;obtain⟨x,dd,p1,p2⟩:=f i d (by rw[List.append_assoc,List.getElem?_append_left h1];exact h);rw[List.append_assoc,List.getElem?_append_left (by omega)] at p1;exact⟨x,dd,by rw[List.getElem?_append_left (by omega)];exact p1,p2⟩
 ·rw[List.getElem?_append_right (by omega)] at h
  by_cases h2:i=us.length
  ·subst h2;rw[Nat.sub_self] at h;obtain rfl:e=d:=by simpa using h
   obtain⟨x,dd,p1,p2⟩:=f (us.length + ts.length) e (by rw[List.getElem?_append_right (by simp),List.length_append,Nat.sub_self];rfl);rw[List.getElem?_append_right (by simp;omega),List.length_append,l1,l2,Nat.sub_self] at p1;exact⟨x,dd,by rw[List.getElem?_append_right (by omega),l1,Nat.sub_self];exact p1,p2⟩
  ·obtain⟨j,rfl⟩:∃ j,i=us.length + 1 + j:=⟨i - us.length - 1,by omega⟩;rw[show us.length + 1 + j - us.length=j + 1 by omega,List.getElem?_cons_succ] at h;have lj:=(List.getElem?_eq_some_iff.mp h).1;obtain⟨x,dd,p1,p2⟩:=f (us.length + j) d (by rw[List.append_assoc,List.getElem?_append_right (by omega),Nat.add_sub_cancel_left,List.getElem?_append_left lj];exact h);rw[List.append_assoc,List.getElem?_append_right (by omega),l1,Nat.add_sub_cancel_left,List.getElem?_append_left (by omega)] at p1;exact⟨x,dd,by rw[List.getElem?_append_right (by omega),l1,show us.length + 1 + j - us.length=j + 1 by omega,List.getElem?_cons_succ];exact p1,p2⟩
noncomputable def Z2Z (A:Ad):Sp:=λvs H Q _=>∃ (pg sn dl le:Addr) (g:Pg) (us ts:List Ent) (e:Ent) (n:Int),vs=[.ref pg,.ref le,.int n]∧PgAt A H pg sn dl g∧DlAt H le (us++ts++[e])∧SplD us ts e∧
 ∀ (pg' dl':Addr) (H':Hp),H dl'=none→Same H H'→PgAt A H' pg' sn dl' { g with deeds:=us++e::ts,next:=n }→Q (.ref pg') H'
noncomputable def Yt (g:Pg)(day:Int)(d:Deed):Option Nat:=if ¬ (0≤day∧day≤1000000) then some 9 else match Xh g d with
 | some i=>some i
 | none=>if 120≤g.deeds.length then some 2 else none
noncomputable def Z45 (A:Ad):Sp:=λvs H Q E=>∃ (pg sn dl dd:Addr) (g:Pg) (day:Int) (d:Deed),vs=[.ref pg,.int g.next,.int day,.ref dd]∧PgAt A H pg sn dl g∧DeedAt H dd d∧(g.men.map (·.1)).Nodup∧g.men.length≤100∧
 (∀ i,Yt g day d=some i→∀ H',Same H H'→E (.ref ((Cs A).getD i 0)) none H')∧(Yt g day d=none→∃ us ts,g.deeds=us++ts∧SplD us ts (g.next,day,d)∧RunG (g.men.map ZV) (us++(g.next,day,d)::ts)∧
   ∀ (pg' dl':Addr) (H':Hp),H dl'=none→Same H H'→PgAt A H' pg' sn dl' { g with deeds:=us++(g.next,day,d)::ts,next:=g.next + 1 }→Q (.ref pg') H')
noncomputable def Z3L (A:Ad):Sp:=λvs H Q _=>∃ (pg sn dl:Addr) (g:Pg) (n:Int),vs=[.ref pg,.int n]∧PgAt A H pg sn dl g∧g.deeds.length≤900∧n∈g.deeds.map (·.1)∧∀ H',Same H H'→Q .non H'
noncomputable def Z56 (A:Ad):Sp:=λvs H Q _=>∃ (pg sn dl:Addr) (g:Pg) (n:Int) (ds us:List Ent) (e:Ent),vs=[.ref pg,.int n]∧PgAt A H pg sn dl g∧g.deeds.length≤900∧n∈g.deeds.map (·.1)∧ds=g.deeds.filter (λd=>!decide (d.1=n))∧ds=us++[e]∧SplD us [] e∧(g.men.map (·.1)).Nodup∧g.men.length≤100∧RunG (g.men.map ZV) ds∧
    ∀ (pg' dl':Addr) (H':Hp),H dl'=none→Same H H'→PgAt A H' pg' sn dl' { g with deeds:=ds }→Q (.ref pg') H'
noncomputable def DlE (H:Hp)(es:List Addr)(ds:List (Int×Int×Deed)):Prop:=es.length=ds.length∧∀ (i:Nat) (d:Int×Int×Deed),ds[i]? = some d→∃ e dd,es[i]? = some e∧H e=some (.tup [.int d.1,.int d.2.1,.ref dd])∧DeedAt H dd d.2.2
theorem DlE.snoc {H:Hp}{es:List Addr}{ds:List (Int×Int×Deed)}{e dd:Addr}{d:Int×Int×Deed}(h:DlE H es ds)(h1:H e=some (.tup [.int d.1,.int d.2.1,.ref dd]))(h2:DeedAt H dd d.2.2):DlE H (es++[e]) (ds++[d]):=by
 refine⟨by simp[h.1],λi d2 e2=>?_⟩
 by_cases hi:i < ds.length
 ·rw[List.getElem?_append_left hi] at e2;obtain⟨e',dd2,a1,a2,a3⟩:=h.2 i d2 e2;exact⟨e',dd2,by rw[List.getElem?_append_left (by rw[h.1];exact hi)];exact a1,a2,a3⟩
 ·have hi2:i=ds.length:=by
   have:=(List.getElem?_eq_some_iff.mp e2).1;simp at this;omega
  subst hi2;rw[List.getElem?_append_right (Nat.le_refl _),Nat.sub_self] at e2;cases e2;exact⟨e,dd,by rw[←h.1,List.getElem?_append_right (Nat.le_refl _),Nat.sub_self];rfl,h1,h2⟩
theorem DeedAt.put {H:Hp}{dd D:Addr}{xs ys:List V}{d:Deed}(h:DeedAt H dd d)(hD:H D=some (.lst xs)):DeedAt (upd H D (.lst ys)) dd d:=by
 cases d with
 | take m x=>
   have h':H dd=some (.tup _):=h;show upd H D _ dd=_;rw[Z2 (Zk h' hD (by simp))];exact h'
 | word m=>
   have h':H dd=some (.tup _):=h;show upd H D _ dd=_;rw[Z2 (Zk h' hD (by simp))];exact h'
 | flee m=>
   have h':H dd=some (.tup _):=h;show upd H D _ dd=_;rw[Z2 (Zk h' hD (by simp))];exact h'
theorem DlE.put {H:Hp}{D:Addr}{xs ys:List V}{es:List Addr}{ds:List (Int×Int×Deed)}(h:DlE H es ds)(hD:H D=some (.lst xs)):DlE (upd H D (.lst ys)) es ds:=
 ⟨h.1,λi d e=>let ⟨x,dd,p,q,r⟩:=h.2 i d e;⟨x,dd,p,by rw[Z2 (Zk q hD (by simp))];exact q,r.put hD⟩⟩
section
variable {P:Program}{w:World}{K:W.Frag}{mg:Str→Option Value}{base:Heap}{A:Ad}
theorem Z2C (T:Txt K mg A):FnOk P w K mg base CX0 1 A.ZcE A.ZbV ["page","number"] (Z3L A):=by
 refine T.Zcj.ok Z2n (λvs H Q E h=>?_) (λcdv A' outer s H vs Q E hr h=>?_)
 ·obtain⟨pg,sn,dl,g,n,rfl,_⟩:=h;rfl
 ·obtain⟨pg,sn,dl,g,n,rfl,PA,h900,hin,k⟩:=h;obtain⟨dp,mt,ct,kvs,h1,h2,h3,h4⟩:=PA.at';obtain⟨es,f1,f2,f3⟩:=PA.hd;refine⟨_,(Z7 (ZD (Zm (Z59 (K:=K) rfl) (pv 1) (Xy (N:=["entry"]) (fr:=[none]) rfl (XN (osc:=Z3 Yp) (ON:=Z38) (by decide +kernel) rfl rfl) (piL (K:=K) rfl (Ze (pv 0) rfl)) (λ_ _ _ _=>(Zu (i:=0) (show List.Nodup (["entry"]:List Str) by decide +kernel) rfl (Or.inl rfl))) (λ_ _ _ _=>(Zj (ixT (K:=K) rfl) (pv 0) Z5 (λ_ _=>rfl)))) (by with_unfolding_all rfl)) (Z7 Yn) Zq)),?_⟩;walk_at "r";refine⟨_,rfl,pg,_,_,_,_,rfl,h1,T.Z96,T.Z9a,rfl,dl,rfl,⟨_,SqL.of f1⟩,λD hD=>?_⟩;refine JL g.deeds.length (λi ys τ H2=>Same H H2∧H2 D=some (.lst ys)∧ys=((g.deeds.map (·.1)).take i).map V.int∧∃ u,τ=[u]) ⟨Same.new hD _,Z1,by simp,none,rfl⟩ (λi ys τ H2 _ q=>q.2.1) ?_ ?_
  ·rintro i ys τ H2 hi ⟨sm,hDz,rfl,u,rfl⟩;obtain⟨e,dd,a1,a2,a3⟩:=f3 i _ (List.getElem?_eq_getElem hi);refine⟨⟨_,.ref e,SqL.of (sm _ _ f1),by rw[List.getElem?_map,a1];rfl⟩,ZR (by simp;omega),?_⟩;rintro x' H3 ⟨rfl,hx⟩;obtain rfl:x'=V.ref e:=by
    have:=hx _ (SqL.of (sm _ _ f1));rw[List.getElem?_map,a1] at this;exact (Option.some.inj this).symm
   walk_at "r";refine⟨e,_,0,_,rfl,rfl,SqT.of (sm _ _ a2),rfl,?_⟩;refine⟨hDz,Jd sm hD,Z1,?_,_,rfl⟩;rw[List.take_succ,List.getElem?_map,List.getElem?_eq_getElem hi,List.map_append];rfl
  ·rintro ys τ H2 ⟨sm,hDz,rfl,u,rfl⟩;refine⟨⟨_,SqL.of (sm _ _ f1),by rw[List.length_map];omega⟩,?_⟩;have tk:(g.deeds.map (·.1)).take g.deeds.length=g.deeds.map (·.1):=List.take_of_length_le (by simp);rw[tk] at hDz;refine⟨D,_,rfl,.inl (SqL.of hDz),rfl,Z4R _,?_⟩;rw[if_pos rfl,Z67,decide_eq_true hin];walk_at "r";refine Zt (by decide) ?_;walk_at "r";exact k H2 sm
theorem JM (T:Txt K mg A):FnOk P w K mg base CX0 4 A.ZbF A.Zbl ["page","entries","next_number"] (Z2Z A):=by
 have Z9L:=@Xt P w K mg base A T;have Zeu:=@Z0x P w K mg base A T;refine T.Zax.ok Zdb (λvs H Q E h=>?_) (λcdv A' outer s H vs Q E hr h=>?_)
 ·obtain⟨pg,sn,dl,le,g,us,ts,e0,n,rfl,_⟩:=h;rfl
 ·obtain⟨pg,sn,dl,le,g,us,ts,e0,n,rfl,PA,hds,srt,k⟩:=h;obtain⟨dp,mt,ct,kvs,h1,h3,h4,h5⟩:=PA.at';obtain⟨es,f1,f2,f3⟩:=id hds;obtain⟨ue,te,a0,rfl,lu,lt⟩:=Z7X (es:=es) (u:=us.length) (t:=ts.length) (by rw[f2];simp;omega);refine⟨_,(Z8 (Zi (i:=3) Zdb.nd rfl (Or.inl rfl) (Z6g Zeu (hr.mono (by decide)) T.Zca rfl T.Zd6 rfl T.Zc6 (pv 1)))
   (Z7 (Zo (XY T.ZcR Z9L (hr.mono (by decide)) rfl T.Zdn T.Zag .nil Zg (Z0 (Ze (pv 0) rfl) (Z0 (Ze (pv 0) rfl) (Z0 (Ze (pv 0) rfl) (Z0 (pv 3) (Z0 (pv 2) Z4))))))))),?_⟩
  walk_at "r";refine Z5V ?_;walk_at "r";refine⟨le,ue,te,a0,Z1a (us++ts++[e0]),rfl,SqL.of f1,by rw[lu,lt];exact srt.few,by rw[lu,lt];exact srt.ins,λHc sc i hi=>?_,λdl' H1 s1 hdl ed=>?_⟩
  ·obtain⟨nn,day,d,ed⟩:∃ nn day d,(us++ts++[e0])[i]? = some (nn,day,d):=by
    have li:i < (us++ts++[e0]).length:=by omega
    exact⟨(us++ts++[e0])[i].1,(us++ts++[e0])[i].2.1,(us++ts++[e0])[i].2.2,List.getElem?_eq_getElem li⟩
   obtain⟨e,dd,a1,a2,a3⟩:=f3 i _ ed;have ee:(ue++te++[a0]).getD i 0=e:=by rw[List.getD_eq_getElem?_getD,a1];rfl
   rw[ee,Jg ed];exact⟨e,dd,nn,day,rfl,sc _ _ a2,λp hp=>⟨Same.new hp _,p,rfl,Z1⟩⟩
  ·walk_at "r";refine⟨pg,_,_,_,_,rfl,s1 _ _ h1,T.Z96,T.Z9b,rfl,?_⟩;walk_at "r";refine⟨pg,_,_,_,_,rfl,s1 _ _ h1,T.Z96,T.Z99,rfl,?_⟩;walk_at "r";refine⟨pg,_,_,_,_,rfl,s1 _ _ h1,T.Z96,T.Z9n,rfl,?_⟩;walk_at "r";intro x dx hx hdx ne;obtain⟨s6,pa⟩:=Z17 (A:=A) (g:={ g with deeds:=us++e0::ts,next:=n }) (ct:=ct) (dl:=dl') hx hdx ne (s1 _ _ PA.hs) (s1 _ _ h3) (h4.same λp xs e=>s1 _ _ e) (h5.same s1) ⟨ue++a0::te,ed,by simp[lu,lt],λi d e=>let ⟨x,dd,p,q,r⟩:=Z8F lu lt f3 i d e;⟨x,dd,p,s1 _ _ q,r.same s1⟩⟩;refine⟨x,dx,sn,mt,.ref ct,.ref dl',n,rfl,Z1,rfl,?_⟩;exact k x dl' _ hdl (s1.trans s6) pa
theorem Z2D (T:Txt K mg A)(TD:DictF w K A.Z9e (ZI A)):FnOk P w K mg base (CX1 P w) 7 A.Zcn A.ZbR ["page","number","day","deed"] (Z45 A):=by
 have Zbw:=@JM P w K mg base A T;have ZaL:=@Jl P w K mg base A T TD;have ZfZ:=@Z3h P w K mg base A T;have Zab:=@Jh P w K mg base A T;have Zfh:=@Z1U P w K mg base A T;refine T.Zcs.okX Zdl (λvs H Q E h=>?_) (λcdv A' outer s H vs Q E hr h=>?_)
 ·obtain⟨pg,sn,dl,dd,g,day,d,rfl,_⟩:=h;rfl
 ·obtain⟨pg,sn,dl,dd,g,day,d,rfl,PA,hd,nd,h100,k1,k2⟩:=h;obtain⟨dp,mt,ct,kvs,h1,h3,h4,h5⟩:=PA.at';obtain⟨es,f1,f2,f3⟩:=PA.hd;refine⟨_,(Z8 (Zl (Zc ZfZ (hr.mono (by decide)) rfl T.ZeH T.ZcZ.kp T.ZeI .nil (Ym ZM) (Z0 (pv 2) Z4)))
   (Z8 (Zl (Zc Zfh (hr.mono (by decide)) rfl T.ZdC T.ZbJ.kp T.Zdx .nil (Ym ZM) (Z0 (pv 0) (Z0 (pv 3) Z4))))
   (Z8 (Zl (Zc Zab (hr.mono (by decide)) rfl T.Zb0 T.Zaa.kp T.ZaW .nil (Ym ZM) (Z0 (Zh (Z05 (K:=K) rfl) rfl T.ZaF PySem.boot_len (Z0 (Ze (pv 0) rfl) Z4)) (Z0 (Xj (i:=120) rfl T.Zdv) Z4))))
   (Z8 (Zi (i:=4) Zdl.nd rfl (Or.inl rfl) (Zc Zbw (hr.mono (by decide)) rfl T.Zbz T.Zax.kp T.ZbT .nil Zg (Z0 (pv 0) (Z0 (Zd X2 (Ze (pv 0) rfl) (ZL (Z0 (ZF (Z0 (pv 1) (Z0 (pv 2) (Z0 (pv 3) Z4)))) Z4))) (Z0 (Zh (Z4X rfl) rfl T.Zgy L2.boot_max (Z0 (Ze (pv 0) rfl) (Z0 (Zd ZE (pv 1) Z5) Z4))) Z4)))))
   (Z8 (Zl (Zc ZaL (hr.mono (by decide)) rfl T.ZaU T.Za5.kp T.ZaP .nil Zg (Z0 (pv 4) (Z0 (pv 1) Z4))))
   (Z7 (Zo (pv 4)))))))),?_⟩
  walk_at "r";refine⟨day,rfl,λhday=>?_,λhday=>k1 9 (by unfold Yt;rw[if_pos hday]) H (Same.refl H)⟩;have en:Yt g day d=match Xh g d with
   | some i=>some i
   | none=>if 120≤g.deeds.length then some 2 else none:=by unfold Yt;rw[if_neg (by simpa using hday)]
  walk_at "r";refine⟨pg,sn,dl,dd,g,d,rfl,PA,hd,λi e H1 s1=>k1 i (by rw[en,e]) H1 s1,λe H1 s1=>?_⟩;rw[e] at en;dsimp only at en;walk_at "r";refine⟨pg,_,_,_,_,rfl,s1 _ _ h1,T.Z96,T.Z9a,rfl,?_⟩;walk_at "r";refine⟨dl,_,rfl,.inl (SqL.of (s1 _ _ f1)),?_⟩;walk_at "r";rw[List.length_map,f2];refine⟨_,_,rfl,λhlt=>?_,λhge=>k1 2 (by rw[en,if_pos (by omega)]) H1 s1⟩;have hlen:g.deeds.length < 120:=by omega
  obtain⟨us,ts,eds,spl,run,k4⟩:=k2 (by rw[en,if_neg (by omega)]);walk_at "r";refine⟨pg,_,_,_,_,rfl,s1 _ _ h1,T.Z96,T.Z9a,rfl,?_⟩;walk_at "r";refine⟨by show 3≤sizeLine;decide,λtp htp=>?_⟩;have s2:=Same.new htp (HO.tup [.int g.next,.int day,.ref dd]);walk_at "r";refine⟨by show 1≤sizeLine;decide,λq hq=>?_⟩;have s3:=Same.new hq (HO.lst [.ref tp]);have S3:=s1.trans (s2.trans s3);refine⟨dl,q,_,_,rfl,rfl,S3 _ _ f1,Z1,ZC (by rw[List.length_map];show es.length + 1≤1000;omega),λle hle=>?_⟩;have s4:=Same.new hle (HO.lst (es.map V.ref++[.ref tp]));have S4:=S3.trans s4;walk_at "r";refine⟨pg,_,_,_,_,rfl,S4 _ _ h1,T.Z96,T.Z9i,rfl,?_⟩;walk_at "r";refine⟨_,_,rfl,?_⟩;walk_at "r";have D4:DlAt (upd (upd (upd H1 tp (.tup [.int g.next,.int day,.ref dd])) q (.lst [.ref tp])) le (.lst (es.map V.ref++[.ref tp]))) le (g.deeds++[(g.next,day,d)]):=by
   refine⟨es++[tp],by rw[Z1,List.map_append];rfl,by simp[f2],λi d2 e2=>?_⟩
   by_cases hi:i < g.deeds.length
   ·rw[List.getElem?_append_left hi] at e2;obtain⟨e',dd2,a1,a2,a3⟩:=f3 i d2 e2;exact⟨e',dd2,by rw[List.getElem?_append_left (by omega)];exact a1,S4 _ _ a2,a3.same S4⟩
   ·have hi2:i=g.deeds.length:=by
     have:=(List.getElem?_eq_some_iff.mp e2).1;simp at this;omega
    subst hi2;rw[List.getElem?_append_right (Nat.le_refl _),Nat.sub_self] at e2;cases e2;refine⟨tp,dd,by rw[List.getElem?_append_right (by omega),f2,Nat.sub_self];rfl,?_,hd.same S4⟩;exact s4 _ _ (s3 _ _ Z1)
  rw[eds] at D4;refine⟨pg,sn,dl,le,g,us,ts,_,_,rfl,PA.same S4,D4,spl,λpg' dl' H5 hdl' s5 pa=>?_⟩;rw[if_pos (show g.next + 1 > g.next by omega)] at pa;walk_at "r";have S5:=S4.trans s5;refine⟨pg',sn,dl',_,g.next,rfl,pa,nd,h100,run,λH6 s6=>?_⟩;walk_at "r";exact k4 pg' dl' H6 (S4.free hdl') (S5.trans s6) (pa.same s6)
theorem Z0U (T:Txt K mg A)(TD:DictF w K A.Z9e (ZI A)):FnOk P w K mg base CX0 7 A.ZaM A.Zav ["page","number"] (Z56 A):=by
 have Zbw:=@JM P w K mg base A T;have ZaL:=@Jl P w K mg base A T TD;have ZfD:=@Z2C P w K mg base A T;refine T.ZaO.ok Zc4 (λvs H Q E h=>?_) (λcdv A' outer s H vs Q E hr h=>?_)
 ·obtain⟨pg,sn,dl,g,n,ds,us,e0,rfl,_⟩:=h;rfl
 ·obtain⟨pg,sn,dl,g,n,ds,us,e0,rfl,PA,h900,hin,eds,eus,spl,nd,h100,run,k⟩:=h;obtain⟨dp,mt,ct,kvs,h1,h3,h4,h5⟩:=PA.at';obtain⟨es,f1,f2,f3⟩:=PA.hd;refine⟨_,(Z8 (Zl (Zc ZfD (hr.mono (by decide)) rfl T.ZdO T.Zcj.kp T.Ze2 .nil Zg (Z0 (pv 0) (Z0 (pv 1) Z4))))
   (Z8 (Zi (i:=2) Zc4.nd rfl (Or.inl rfl) (Zc Zbw (hr.mono (by decide)) rfl T.Zbz T.Zax.kp T.ZbT .nil Zg (Z0 (pv 0) (Z0 (Z4D (N:=["entry","number"]) (fr:=[none,some 1]) rfl (XN (osc:=Z3 ZX) (ON:=Z1f) (by decide +kernel) rfl rfl) (piL (K:=K) rfl (Ze (pv 0) rfl)) (λ_ _ _ _=>(Zu (i:=0) (show List.Nodup (["entry","number"]:List Str) by decide +kernel) rfl (Or.inl rfl))) (λ_ _ _ _=>(Zm Jm (Zj (ixT (K:=K) rfl) (pv 0) Z5 (λ_ _=>rfl)) (pv 1) (Zs _))) (λ_ _ _ _=>(pv 0))) (Z0 (Ze (pv 0) rfl) Z4)))))
   (Z8 (Zl (Zc ZaL (hr.mono (by decide)) rfl T.ZaU T.Za5.kp T.ZaP .nil Zg (Z0 (pv 2) (Z0 (Xj (i:=0) rfl T.Ze9) Z4))))
   (Z7 (Zo (pv 2)))))),?_⟩
  walk_at "r";refine⟨pg,sn,dl,g,n,rfl,PA,h900,hin,λH1 s1=>?_⟩;walk_at "r";refine⟨_,rfl,pg,_,_,_,_,rfl,s1 _ _ h1,T.Z96,T.Z9a,rfl,dl,rfl,⟨_,SqL.of (s1 _ _ f1)⟩,λD hD=>?_⟩;refine Z8o g.deeds.length (λi ys τ H2=>Same H1 H2∧H2 D=some (.lst ys)∧(∃ es',ys=es'.map V.ref∧DlE H2 es' ((g.deeds.take i).filter λd=>!decide (d.1=n)))∧∃ u,τ=[u,some (.int n)]) ⟨Same.new hD _,Z1,⟨[],rfl,rfl,λi d z=>by simp at z⟩,none,rfl⟩ (λi ys τ H2 _ q=>q.2.1) ?_ ?_
  ·rintro i ys τ H2 hi ⟨sm,hDz,⟨es',rfl,de⟩,u,rfl⟩;obtain⟨e,dd,a1,a2,a3⟩:=f3 i _ (List.getElem?_eq_getElem hi);have S2:=s1.trans sm;have lf:es'.length≤i:=by
    rw[de.1];refine Nat.le_trans (List.length_filter_le _ _) ?_;rw[List.length_take];omega
   refine⟨⟨_,.ref e,SqL.of (S2 _ _ f1),by rw[List.getElem?_map,a1];rfl⟩,ZR (by rw[List.length_map];omega),?_⟩;rintro x' H3 ⟨rfl,hx⟩;obtain rfl:x'=V.ref e:=by
    have:=hx _ (SqL.of (S2 _ _ f1));rw[List.getElem?_map,a1] at this;exact (Option.some.inj this).symm
   walk_at "r";refine⟨e,_,0,_,rfl,rfl,SqT.of (S2 _ _ a2),rfl,?_⟩;walk_at "r";have et:g.deeds.take (i + 1)=g.deeds.take i++[g.deeds[i]]:=by rw[List.take_succ,List.getElem?_eq_getElem hi];rfl
   by_cases hn:(g.deeds[i]).1=n
   ·refine Zt (by rw[decide_eq_true hn];decide) ?_;refine⟨sm,hDz,⟨es',rfl,?_⟩,_,rfl⟩;rw[et,List.filter_append,List.filter_cons_of_neg (by simp[hn]),List.filter_nil,List.append_nil];exact de
   ·refine Y1 (by rw[decide_eq_false hn];rfl) ?_;walk_at "r";refine⟨hDz,Jd sm hD,Z1,⟨es'++[e],by rw[List.map_append];rfl,?_⟩,_,rfl⟩;rw[et,List.filter_append,List.filter_cons_of_pos (by simp[hn]),List.filter_nil];exact (de.snoc (S2 _ _ a2) (a3.same S2)).put hDz
  ·rintro ys τ H2 ⟨sm,hDz,⟨es',rfl,de⟩,u,rfl⟩;have S2:=s1.trans sm;refine⟨⟨_,SqL.of (S2 _ _ f1),by rw[List.length_map];omega⟩,?_⟩;rw[List.take_length,←eds] at de;walk_at "r";refine⟨pg,_,_,_,_,rfl,S2 _ _ h1,T.Z96,T.Z9i,rfl,?_⟩;walk_at "r";refine⟨pg,sn,dl,D,g,us,[],e0,_,rfl,PA.same S2,by rw[List.append_nil,←eus];exact⟨es',hDz,de.1,de.2⟩,spl,λpg' dl' H5 hdl' s5 pa=>?_⟩;rw[←eus] at pa;walk_at "r";have S5:=S2.trans s5;refine⟨pg',sn,dl',_,0,rfl,pa,nd,h100,run,λH6 s6=>?_⟩;walk_at "r";exact k pg' dl' H6 (S2.free hdl') (S5.trans s6) (pa.same s6)
end
noncomputable def Keep2 (b c:Addr)(H H':Hp):Prop:=∀ d o,H d=some o→d≠b→d≠c→H' d=some o
theorem Keep2.after {b c:Addr}{H H1 H2:Hp}(s:Same H H1)(l:Keep2 b c H1 H2):Keep2 b c H H2:=λd o e n m=>l d o (s d o e) n m
noncomputable abbrev JE (pg pa:Addr)(fu:V):List (Str×V):=[("page",.ref pg),("past",.ref pa),("future",fu)]
theorem DeedAt.sameT {H H':Hp}{dd:Addr}{d:Deed}(h:DeedAt H dd d)(s:∀ p xs,H p=some (.tup xs)→H' p=some (.tup xs)):DeedAt H' dd d:=by
 cases d with
 | take m x=>exact s _ _ h
 | word m=>exact s _ _ h
 | flee m=>exact s _ _ h
theorem DlAt.sameT {H H':Hp}{dl:Addr}{ds:List (Int×Int×Deed)}(h:DlAt H dl ds)(s:∀ p xs,H p=some (.tup xs)→H' p=some (.tup xs))(e:∀ o,H dl=some o→H' dl=some o):DlAt H' dl ds:=by
 obtain⟨es,a,b,c⟩:=h;exact⟨es,e _ a,b,λi d e=>let ⟨x,dd,p,q,r⟩:=c i d e;⟨x,dd,p,s _ _ q,r.sameT s⟩⟩
theorem PgAt.keepN {A:Ad}{H H':Hp}{pg sn dl:Addr}{g:Pg}(h:PgAt A H pg sn dl g)(k:∀ d o,H d=some o→(d=pg∨d=sn∨d=dl∨((∀ xs,o≠.lst xs)∧∀ c x fs,o≠.ins c x fs))→H' d=some o):PgAt A H' pg sn dl g:=by
 obtain⟨dp,mt,ct,kvs,a,b,c,d⟩:=h.at';have kt:∀ p xs,H p=some (.tup xs)→H' p=some (.tup xs):=λp xs e=>k _ _ e (.inr (.inr (.inr ⟨λ_=>by simp,λ_ _ _=>by simp⟩)));refine⟨⟨dp,mt,ct,kvs,k _ _ a (.inl rfl),k _ _ b (.inr (.inr (.inr ⟨λ_=>by simp,λ_ _ _=>by simp⟩))),c.same λp xs e=>kt _ _ e,?_⟩,k _ _ h.hs (.inr (.inl rfl)),h.hd.sameT kt λo e=>k _ _ e (.inr (.inr (.inl rfl)))⟩;have kd:∀ kvs,H ct=some (.dT kvs)→H' ct=some (.dT kvs):=λkvs e=>k _ _ e (.inr (.inr (.inr ⟨λ_=>by simp,λ_ _ _=>by simp⟩)));cases ec:g.cart with
 | none=>rw[ec] at d;exact kd _ d
 | some cc=>rw[ec] at d;obtain⟨tt,tw,x,y,z⟩:=d;exact⟨tt,tw,kd _ x,kt _ _ y,kt _ _ z⟩
theorem Z77 {A:Ad}{H:Hp}{pg bk dp dx sn mt qg pa:Addr}{ct dl fu:V}{n:Int}(h:H pg=some (.ins A.Z98 dp (Z0m sn mt ct dl n)))(hb:H bk=some (.ins A.Z93 dx (JE qg pa fu))):pg≠bk:=Zk h hb λe=>by
 injection e with _ _ e
 exact absurd (congrArg List.length e) (show ¬ (5=3) by decide)
noncomputable def Book5 (A:Ad)(H:Hp)(bk pa sn dl:Addr)(g:Pg)(n:Nat):Prop:=∃ (dx pg:Addr) (fu:V) (ps:List Addr),H bk=some (.ins A.Z93 dx (JE pg pa fu))∧H pa=some (.lst (ps.map V.ref))∧ps.length≤n∧PgAt A H pg sn dl g∧sn≠pa∧dl≠pa
theorem Book5.same {A:Ad}{H H':Hp}{bk pa sn dl:Addr}{g:Pg}{n:Nat}(h:Book5 A H bk pa sn dl g n)(s:Same H H'):Book5 A H' bk pa sn dl g n:=by
 obtain⟨dx,pg,fu,ps,a,b,c,d,e⟩:=h;exact⟨dx,pg,fu,ps,s _ _ a,s _ _ b,c,d.same s,e⟩
theorem Book5.keep {A:Ad}{H H':Hp}{b bk pa sn dl:Addr}{g:Pg}{n:Nat}{bs:List V}(h:Book5 A H bk pa sn dl g n)(hb:H b=some (.lst bs))(n1:pa≠b)(n2:sn≠b)(n3:dl≠b)(k:Keep b H H'):Book5 A H' bk pa sn dl g n:=by
 obtain⟨dx,pg,fu,ps,a,b',c,d,e⟩:=h;refine⟨dx,pg,fu,ps,k _ _ a (Zk a hb (by simp)),k _ _ b' n1,c,d.keepN λq o eq hq=>k _ _ eq ?_,e⟩;obtain⟨dp,mt,ct,kvs,p1,_⟩:=d.at'
 rcases hq with rfl|rfl|rfl|⟨hq,_⟩
 ·exact Zk p1 hb (by simp)
 ·exact n2
 ·exact n3
 ·exact Zk eq hb (hq _)
theorem PgAt.keep2 {A:Ad}{H H':Hp}{pg sn dl bk dx qg pa:Addr}{fu:V}{xs:List V}{g:Pg}(h:PgAt A H pg sn dl g)(hb:H bk=some (.ins A.Z93 dx (JE qg pa fu)))(hp:H pa=some (.lst xs))(ne:sn≠pa)(ne2:dl≠pa)(k:Keep2 bk pa H H'):PgAt A H' pg sn dl g:=by
 obtain⟨dp,mt,ct,kvs,p1,_⟩:=h.at';obtain⟨es,q1,_⟩:=h.hd;refine h.keepN λq o eq hq=>?_
 rcases hq with rfl|rfl|rfl|⟨hq,hq2⟩
 ·exact k _ _ eq (Z77 p1 hb) (Zk p1 hp (by simp))
 ·exact k _ _ eq (Zk h.hs hb (by simp)) ne
 ·exact k _ _ eq (Zk q1 hb (by simp)) ne2
 ·exact k _ _ eq (Zk eq hb (hq2 _ _ _)) (Zk eq hp (hq _))
noncomputable abbrev pg0:Pg:=⟨[],[],none,[],1⟩
noncomputable def Z7l (A:Ad):Sp:=λvs H Q _=>∃ (bk pa sn dl:Addr) (g:Pg) (n:Nat) (pg' sn' dl':Addr) (g':Pg),vs=[.ref bk,.ref pg']∧Book5 A H bk pa sn dl g n∧n≤900∧PgAt A H pg' sn' dl' g'∧sn'≠pa∧dl'≠pa∧
 ∀ H',Book5 A H' bk pa sn' dl' g' (n + 1)→Keep2 bk pa H H'→Q .non H'
noncomputable def Z34 (A:Ad):Sp:=λvs H Q _=>∃ (bk dx:Addr),vs=[.ref bk]∧H bk=some (.ins A.Z93 dx [])∧∀ (pa sn dl:Addr) (H':Hp),H pa=none→H sn=none→H dl=none→Book5 A H' bk pa sn dl pg0 0→(∀ d o,H d=some o→d≠bk→H' d=some o)→Q .non H'
noncomputable def Z1p (A:Ad):Sp:=λvs H Q E=>∃ (bk pa sn dl:Addr) (g:Pg) (n:Nat) (z:Str),vs=[.ref bk,.str z]∧Book5 A H bk pa sn dl g n∧n≤900∧g.sides.length≤900∧z.cps.size≤1000∧
 (∀ i,X9 g.sides z=some i→∀ H',Same H H'→E (.ref ((Cs A).getD i 0)) none H')∧(X9 g.sides z=none→∀ (sn':Addr) (H':Hp),H sn'=none→Book5 A H' bk pa sn' dl { g with sides:=g.sides++[z] } (n + 1)→Keep2 bk pa H H'→Q .non H')
noncomputable def Z2j (A:Ad):Sp:=λvs H Q E=>∃ (bk pa sn dl:Addr) (g:Pg) (n:Nat) (z y:Str) (r:Int),vs=[.ref bk,.str z,.str y,.int r]∧Book5 A H bk pa sn dl g n∧n≤900∧g.men.length≤900∧z.cps.size≤1000∧
 (∀ i,Ya g.sides g.men z y r=some i→∀ H',Same H H'→E (.ref ((Cs A).getD i 0)) none H')∧(Ya g.sides g.men z y r=none→∀ (H':Hp),Book5 A H' bk pa sn dl { g with men:=g.men++[(z,y,r)] } (n + 1)→Keep2 bk pa H H'→Q .non H')
noncomputable def Z1L (A:Ad):Sp:=λvs H Q _=>∃ (bk pa sn dl:Addr) (g:Pg) (n:Nat) (m:Int) (ds us:List Ent) (e:Ent),vs=[.ref bk,.int m]∧Book5 A H bk pa sn dl g n∧n≤900∧g.deeds.length≤900∧m∈g.deeds.map (·.1)∧ds=g.deeds.filter (λd=>!decide (d.1=m))∧ds=us++[e]∧SplD us [] e∧(g.men.map (·.1)).Nodup∧g.men.length≤100∧RunG (g.men.map ZV) ds∧
 ∀ (dl':Addr) (H':Hp),H dl'=none→Book5 A H' bk pa sn dl' { g with deeds:=ds } (n + 1)→Keep2 bk pa H H'→Q .non H'
noncomputable def TellK (A:Ad)(H:Hp)(bk pa sn dl:Addr)(g:Pg)(n:Nat)(day:Int)(d:Deed)(Q:VK)(E:XK):Prop:=Book5 A H bk pa sn dl g n∧n≤900∧(g.men.map (·.1)).Nodup∧g.men.length≤100∧
 (∀ i,Yt g day d=some i→∀ H',Same H H'→E (.ref ((Cs A).getD i 0)) none H')∧
 (Yt g day d=none→∃ us ts,g.deeds=us++ts∧SplD us ts (g.next,day,d)∧RunG (g.men.map ZV) (us++(g.next,day,d)::ts)∧
   ∀ (dl':Addr) (H':Hp),H dl'=none→Book5 A H' bk pa sn dl' { g with deeds:=us++(g.next,day,d)::ts,next:=g.next + 1 } (n + 1)→Keep2 bk pa H H'→Q (.int g.next) H')
theorem TellK.same {A:Ad}{H H1:Hp}{bk pa sn dl:Addr}{g:Pg}{n:Nat}{day:Int}{d:Deed}{Q:VK}{E:XK}(h:TellK A H bk pa sn dl g n day d Q E)(s:Same H H1):TellK A H1 bk pa sn dl g n day d Q E:=by
 obtain⟨a,b,d1,e,f,k⟩:=h;refine⟨a.same s,b,d1,e,λi z H' s'=>f i z H' (s.trans s'),λz=>?_⟩;obtain⟨us,ts,x,y,r,k2⟩:=k z;exact⟨us,ts,x,y,r,λdl' H' hd B kp=>k2 dl' H' (s.free hd) B (Keep2.after s kp)⟩
noncomputable def Z7h (A:Ad):Sp:=λvs H Q E=>∃ (bk pa sn dl dd:Addr) (g:Pg) (n:Nat) (day:Int) (d:Deed),vs=[.ref bk,.int day,.ref dd]∧DeedAt H dd d∧TellK A H bk pa sn dl g n day d Q E
noncomputable def Z6N (A:Ad):Sp:=λvs H Q E=>∃ (bk pa sn dl:Addr) (g:Pg) (n:Nat) (day:Int) (m s:Str),vs=[.ref bk,.int day,.str m,.str s]∧TellK A H bk pa sn dl g n day (.take m s) Q E
noncomputable def Z7n (A:Ad):Sp:=λvs H Q E=>∃ (bk pa sn dl:Addr) (g:Pg) (n:Nat) (day:Int) (m:Str),vs=[.ref bk,.int day,.str m]∧TellK A H bk pa sn dl g n day (.word m) Q E
noncomputable def Z6W (A:Ad):Sp:=λvs H Q E=>∃ (bk pa sn dl:Addr) (g:Pg) (n:Nat) (day:Int) (m:Str),vs=[.ref bk,.int day,.str m]∧TellK A H bk pa sn dl g n day (.flee m) Q E
section
variable {P:Program}{w:World}{K:W.Frag}{mg:Str→Option Value}{base:Heap}{A:Ad}
theorem Yy (T:Txt K mg A):FnOk P w K mg base CX0 1 A.Za7 A.Zao ["self","page"] (Z7l A):=by
 refine T.Z9A.ok Z0Y (λvs H Q E h=>?_) (λcdv A' outer s H vs Q E hr h=>?_)
 ·obtain⟨bk,pa,sn,dl,g,n,pg',sn',dl',g',rfl,_⟩:=h;rfl
 ·obtain⟨bk,pa,sn,dl,g,n,pg',sn',dl',g',rfl,⟨dx,pg,fu,ps,h1,h2,h3,h4,h5⟩,hn,h6,h7,h8,k⟩:=h;have nbp:bk≠pa:=Zk h1 h2 (by simp);refine⟨_,(Z8 (Zl (Z0V PySem.F.plainAttrs_list PySem.F.slot_list_append PySem.F.type_list_append Jn (Ze (pv 0) rfl) (Z0 (Ze (pv 0) rfl) Z4)))
   (Z8 (Y0 (pv 0) (ZL Z4) rfl)
   (Z7 (Y0 (pv 0) (pv 1) rfl)))),?_⟩
  walk_at "r";refine⟨bk,_,_,_,_,rfl,h1,T.Z94,T.Zcv,rfl,?_⟩;refine⟨.inl ⟨rfl,_,SqL.of h2⟩,?_⟩;walk_at "r";refine⟨bk,_,_,_,_,rfl,h1,T.Z94,T.Z9k,rfl,?_⟩;walk_at "r";refine Z7I h2 (ZR (by rw[List.length_map];omega)) ?_;walk_at "r";refine⟨by show 0≤sizeLine;decide,λfu' hfu=>?_⟩;walk_at "r";have k1:Keep2 bk pa H (upd H pa (.lst (ps.map V.ref++[.ref pg]))):=λd o e _ ne=>by rw[Z2 ne];exact e
  have e1:(upd (upd H pa (.lst (ps.map V.ref++[.ref pg]))) fu' (.lst [])) bk=some (.ins A.Z93 dx (JE pg pa fu)):=Same.new hfu _ _ _ (by rw[Z2 nbp];exact h1);refine⟨bk,_,dx,_,rfl,e1,T.Z94,T.Zbj,(show 3 < 1000 by decide),?_⟩;walk_at "r";refine⟨bk,_,dx,_,rfl,Z1,T.Z94,T.Z9k,(show 3 < 1000 by decide),?_⟩;walk_at "r";rw[Y3];have k2:Keep2 bk pa H (upd (upd (upd H pa (.lst (ps.map V.ref++[.ref pg]))) fu' (.lst [])) bk (.ins A.Z93 dx (JE pg' pa (.ref fu')))):=λd o e nb np=>by
   rw[Z2 nb];exact Same.new hfu _ _ _ (k1 d o e nb np)
  refine k _ ⟨dx,pg',.ref fu',ps++[pg],Z1,?_,by simp;omega,h6.keep2 h1 h2 h7 h8 k2,h7,h8⟩ k2;rw[Z2 (Ne.symm nbp),List.map_append];exact Same.new hfu _ _ _ Z1
theorem Z1T (T:Txt K mg A):FnOk P w K mg base CX0 4 A.Zah A.ZbZ ["self"] (Z34 A):=by
 have Zfl:=@Z1g P w K mg base A T;refine T.Ze3.ok Z27 (λvs H Q E h=>?_) (λcdv A' outer s H vs Q E hr h=>?_)
 ·obtain⟨bk,dx,rfl,_⟩:=h;rfl
 ·obtain⟨bk,dx,rfl,hb,k⟩:=h;refine⟨_,(Z8 (Y0 (pv 0) (Z6a Zfl (hr.mono (by decide)) rfl T.Zdu T.ZbM.kp T.Zdr .nil Zg) rfl)
   (Z8 (Y0 (pv 0) (ZL Z4) rfl)
   (Z7 (Y0 (pv 0) (ZL Z4) rfl)))),?_⟩
  walk_at "r";refine⟨rfl,λpg sn dl H1 hsn hdl s1 PA=>?_⟩;walk_at "r";refine⟨bk,_,dx,_,rfl,s1 _ _ hb,T.Z94,T.Z9k,(show 0 < 1000 by decide),?_⟩;walk_at "r";refine⟨by show 0≤sizeLine;decide,λpa hpa=>?_⟩;walk_at "r";have npb:bk≠pa:=Z6 Z1 hpa;have hpa1:H1 pa=none:=by rw[Z2 (Ne.symm npb)] at hpa;exact hpa
  have e1:(upd (upd H1 bk (.ins A.Z93 dx (ZA "page" (.ref pg) []))) pa (.lst [])) bk=some (.ins A.Z93 dx (ZA "page" (.ref pg) [])):=by rw[Z2 npb,Z1]
  refine⟨bk,_,dx,_,rfl,e1,T.Z94,T.Zcv,(show 1 < 1000 by decide),?_⟩;walk_at "r";refine⟨by show 0≤sizeLine;decide,λfu hfu=>?_⟩;walk_at "r";have nfb:bk≠fu:=Z6 Z1 hfu;have e2:(upd (upd (upd (upd H1 bk (.ins A.Z93 dx (ZA "page" (.ref pg) []))) pa (.lst [])) bk (.ins A.Z93 dx (ZA "past" (.ref pa) (ZA "page" (.ref pg) [])))) fu (.lst [])) bk=some (.ins A.Z93 dx (ZA "past" (.ref pa) (ZA "page" (.ref pg) []))):=by rw[Z2 nfb,Z1]
  refine⟨bk,_,dx,_,rfl,e2,T.Z94,T.Zbj,(show 2 < 1000 by decide),?_⟩;walk_at "r";have kp:∀ d o,H1 d=some o→d≠bk→(upd (upd (upd (upd (upd H1 bk (.ins A.Z93 dx (ZA "page" (.ref pg) []))) pa (.lst [])) bk (.ins A.Z93 dx (ZA "past" (.ref pa) (ZA "page" (.ref pg) [])))) fu (.lst [])) bk (.ins A.Z93 dx (JE pg pa (.ref fu)))) d=some o:=λd o e nb=>by
   have np:d≠pa:=Z6 e hpa1;have nf:d≠fu:=Z6 (H:=upd (upd (upd H1 bk (.ins A.Z93 dx (ZA "page" (.ref pg) []))) pa (.lst [])) bk (.ins A.Z93 dx (ZA "past" (.ref pa) (ZA "page" (.ref pg) [])))) (o:=o) (by rw[Z2 nb,Z2 np,Z2 nb];exact e) hfu;rw[Z2 nb,Z2 nf,Z2 nb,Z2 np,Z2 nb];exact e
  have epa:(upd (upd (upd (upd (upd H1 bk (.ins A.Z93 dx (ZA "page" (.ref pg) []))) pa (.lst [])) bk (.ins A.Z93 dx (ZA "past" (.ref pa) (ZA "page" (.ref pg) [])))) fu (.lst [])) bk (.ins A.Z93 dx (JE pg pa (.ref fu)))) pa=some (.lst []):=by
   have e:(upd (upd (upd H1 bk (.ins A.Z93 dx (ZA "page" (.ref pg) []))) pa (.lst [])) bk (.ins A.Z93 dx (ZA "past" (.ref pa) (ZA "page" (.ref pg) [])))) pa=some (.lst []):=by rw[Z2 (Ne.symm npb),Z1]
   rw[Z2 (Ne.symm npb),Z2 (Z6 e hfu)];exact e
  have hbk1:=s1 _ _ hb;obtain⟨dp,mt,ct,kvs,p1,_⟩:=PA.at';obtain⟨es,q1,_⟩:=PA.hd;have npg:pg≠bk:=Zk p1 hbk1 λe=>by
   injection e with _ _ e
   exact absurd (congrArg List.length e) (show ¬ (5=0) by decide)
  have PA2:=PA.keepN λq o eq hq=>kp q o eq (by
   rcases hq with rfl|rfl|rfl|⟨_,hq2⟩
   ·exact npg
   ·exact Zk PA.hs hbk1 (by simp)
   ·exact Zk q1 hbk1 (by simp)
   ·exact Zk eq hbk1 (hq2 _ _ _))
  refine k pa sn dl _ (s1.free hpa1) hsn hdl ⟨dx,pg,.ref fu,[],Z1,epa,by simp,PA2,Z6 PA.hs hpa1,Z6 q1 hpa1⟩ λd o e nb=>kp _ _ (s1 _ _ e) nb
theorem JO (T:Txt K mg A):FnOk P w K mg base (CX1 P w) 5 A.ZaY A.ZbN ["self","name"] (Z1p A):=by
 have Z9v:=@Yy P w K mg base A T;have ZfL:=@Z1O P w K mg base A T;refine T.ZaZ.okX Z2U (λvs H Q E h=>?_) (λcdv A' outer s H vs Q E hr h=>?_)
 ·obtain⟨bk,pa,sn,dl,g,n,z,rfl,_⟩:=h;rfl
 ·obtain⟨bk,pa,sn,dl,g,n,z,rfl,B,hn,hzs,hz,k1,k2⟩:=h;obtain⟨dx,pg,fu,ps,h1,h2,h3,h4,h5,h6⟩:=id B;refine⟨_,(Z7 (Zl (Y6 (pv 0) T.Z94 ⟨T.Z9N,T.Z9I,T.Z9A.kp⟩ Z9v (hr.mono (by decide)) T.Z9O .nil Zg (Z0 (Zc ZfL (hr.mono (by decide)) rfl T.ZdV T.Zcm.kp T.ZdT .nil (Ym ZM) (Z0 (Ze (pv 0) rfl) (Z0 (pv 1) Z4))) Z4)))),?_⟩;walk_at "r";refine⟨bk,dx,_,rfl,h1,rfl,?_⟩;walk_at "r";refine⟨bk,_,_,_,_,rfl,h1,T.Z94,T.Z9k,rfl,?_⟩;walk_at "r";refine⟨pg,sn,dl,g,z,rfl,hz,hzs,h4,k1,λdue pg' sn' H1 hsn' s1 PA=>?_⟩;refine⟨bk,pa,sn,dl,g,n,pg',sn',dl,_,rfl,B.same s1,hn,PA,Ne.symm (Z6 h2 hsn'),h6,λH2 B2 kp=>?_⟩;exact k2 due sn' H2 hsn' B2 (Keep2.after s1 kp)
theorem Z06 (T:Txt K mg A):FnOk P w K mg base (CX1 P w) 5 A.Zbs A.Zcq ["self","name","side","rank"] (Z2j A):=by
 have Z9v:=@Yy P w K mg base A T;have Zg1:=@Z26 P w K mg base A T;refine T.Za6.okX Z3d (λvs H Q E h=>?_) (λcdv A' outer s H vs Q E hr h=>?_)
 ·obtain⟨bk,pa,sn,dl,g,n,z,y,r,rfl,_⟩:=h;rfl
 ·obtain⟨bk,pa,sn,dl,g,n,z,y,r,rfl,B,hn,hzs,hz,k1,k2⟩:=h;obtain⟨dx,pg,fu,ps,h1,h2,h3,h4,h5,h6⟩:=id B;refine⟨_,(Z7 (Zl (Y6 (pv 0) T.Z94 ⟨T.Z9N,T.Z9I,T.Z9A.kp⟩ Z9v (hr.mono (by decide)) T.Z9O .nil Zg (Z0 (Zc Zg1 (hr.mono (by decide)) rfl T.ZeF T.Zd5.kp T.ZeA .nil (Ym ZM) (Z0 (Ze (pv 0) rfl) (Z0 (pv 1) (Z0 (pv 2) (Z0 (pv 3) Z4))))) Z4)))),?_⟩;walk_at "r";refine⟨bk,dx,_,rfl,h1,rfl,?_⟩;walk_at "r";refine⟨bk,_,_,_,_,rfl,h1,T.Z94,T.Z9k,rfl,?_⟩;walk_at "r";refine⟨pg,sn,dl,g,z,y,r,rfl,hz,hzs,h4,k1,λdue pg' H1 s1 PA=>?_⟩;refine⟨bk,pa,sn,dl,g,n,pg',sn,dl,_,rfl,B.same s1,hn,PA,h5,h6,λH2 B2 kp=>?_⟩;exact k2 due H2 B2 (Keep2.after s1 kp)
theorem Z0Z (T:Txt K mg A)(TD:DictF w K A.Z9e (ZI A)):FnOk P w K mg base CX0 8 A.Zal A.ZaV ["self","number"] (Z1L A):=by
 have Z9v:=@Yy P w K mg base A T;have ZeV:=@Z0U P w K mg base A T TD;refine T.Zbn.ok Z1e (λvs H Q E h=>?_) (λcdv A' outer s H vs Q E hr h=>?_)
 ·obtain⟨bk,pa,sn,dl,g,n,m,ds,us,e,rfl,_⟩:=h;rfl
 ·obtain⟨bk,pa,sn,dl,g,n,m,ds,us,e,rfl,B,hn,h900,hin,eds,eus,spl,nd,h100,run,k⟩:=h;obtain⟨dx,pg,fu,ps,h1,h2,h3,h4,h5,h6⟩:=id B;refine⟨_,(Z7 (Zl (Y6 (pv 0) T.Z94 ⟨T.Z9N,T.Z9I,T.Z9A.kp⟩ Z9v (hr.mono (by decide)) T.Z9O .nil Zg (Z0 (Zc ZeV (hr.mono (by decide)) rfl T.ZcN T.ZaO.kp T.ZcT .nil Zg (Z0 (Ze (pv 0) rfl) (Z0 (pv 1) Z4))) Z4)))),?_⟩;walk_at "r";refine⟨bk,dx,_,rfl,h1,rfl,?_⟩;walk_at "r";refine⟨bk,_,_,_,_,rfl,h1,T.Z94,T.Z9k,rfl,?_⟩;walk_at "r";refine⟨pg,sn,dl,g,m,ds,us,e,rfl,h4,h900,hin,eds,eus,spl,nd,h100,run,λpg' dl' H1 hdl' s1 PA=>?_⟩;refine⟨bk,pa,sn,dl,g,n,pg',sn,dl',_,rfl,B.same s1,hn,PA,h5,Ne.symm (Z6 h2 hdl'),λH2 B2 kp=>?_⟩;walk_at "r";exact k dl' H2 hdl' B2 (Keep2.after s1 kp)
theorem Je (T:Txt K mg A)(TD:DictF w K A.Z9e (ZI A)):FnOk P w K mg base (CX1 P w) 8 A.Zba A.ZbE ["self","day","deed"] (Z7h A):=by
 have Z9v:=@Yy P w K mg base A T;have ZfF:=@Z2D P w K mg base A T TD;refine T.Zai.okX ZdG (λvs H Q E h=>?_) (λcdv A' outer s H vs Q E hr h=>?_)
 ·obtain⟨bk,pa,sn,dl,dd,g,n,day,d,rfl,_⟩:=h;rfl
 ·obtain⟨bk,pa,sn,dl,dd,g,n,day,d,rfl,hd,B,hn,nd,h100,k1,k2⟩:=h;obtain⟨dx,pg,fu,ps,h1,h2,h3,h4,h5,h6⟩:=id B;obtain⟨dp,mt,ct,kvs,p1,_⟩:=h4.at';refine⟨_,(Z8 (Zi (i:=3) ZdG.nd rfl (Or.inl rfl) (Ze (Ze (pv 0) rfl) rfl))
   (Z8 (Zl (Y6 (pv 0) T.Z94 ⟨T.Z9N,T.Z9I,T.Z9A.kp⟩ Z9v (hr.mono (by decide)) T.Z9O .nil Zg (Z0 (Zc ZfF (hr.mono (by decide)) rfl T.Ze1 T.Zcs.kp T.ZdZ .nil (Ym ZM) (Z0 (Ze (pv 0) rfl) (Z0 (pv 3) (Z0 (pv 1) (Z0 (pv 2) Z4))))) Z4)))
   (Z7 (Zo (pv 3))))),?_⟩
  walk_at "r";refine⟨bk,_,_,_,_,rfl,h1,T.Z94,T.Z9k,rfl,?_⟩;refine⟨pg,_,_,_,_,rfl,p1,T.Z96,T.Z9i,rfl,?_⟩;walk_at "r";refine⟨bk,dx,_,rfl,h1,rfl,?_⟩;walk_at "r";refine⟨bk,_,_,_,_,rfl,h1,T.Z94,T.Z9k,rfl,?_⟩;walk_at "r";refine⟨pg,sn,dl,dd,g,day,d,rfl,h4,hd,nd,h100,k1,λdue=>?_⟩;obtain⟨us,ts,eds,spl,run,k4⟩:=k2 due;refine⟨us,ts,eds,spl,run,λpg' dl' H1 hdl' s1 PA=>?_⟩;refine⟨bk,pa,sn,dl,g,n,pg',sn,dl',_,rfl,B.same s1,hn,PA,h5,Ne.symm (Z6 h2 hdl'),λH2 B2 kp=>?_⟩;walk_at "r";exact k4 dl' H2 hdl' B2 (Keep2.after s1 kp)
theorem Z04 (T:Txt K mg A)(TD:DictF w K A.Z9e (ZI A)):FnOk P w K mg base (CX1 P w) 9 A.Zb8 A.ZbB ["self","day","man","side"] (Z6N A):=by
 have Zaf:=@Je P w K mg base A T TD;refine T.Zad.okX Z2E (λvs H Q E h=>?_) (λcdv A' outer s H vs Q E hr h=>?_)
 ·obtain⟨bk,pa,sn,dl,g,n,day,m,sd,rfl,_⟩:=h;rfl
 ·obtain⟨bk,pa,sn,dl,g,n,day,m,sd,rfl,tk⟩:=h;obtain⟨dx,pg,fu,ps,h1,h2,h3,h4,h5,h6⟩:=id tk.1;refine⟨_,(Z7 (Zo (Y6 (pv 0) T.Z94 ⟨T.Zb7,T.Zar,T.Zai.kp⟩ Zaf (hr.mono (by decide)) T.Zb2 .nil (Ym ZM) (Z0 (pv 1) (Z0 (ZF (Z0 Zb (Z0 (pv 2) (Z0 (pv 3) Z4)))) Z4))))),?_⟩;walk_at "r";refine⟨bk,dx,_,rfl,h1,rfl,?_⟩;walk_at "r";refine⟨by show 3≤sizeLine;decide,λtp htp=>?_⟩;have s1:=Same.new htp (HO.tup [.str "take",.str m,.str sd]);exact⟨bk,pa,sn,dl,tp,g,n,day,.take m sd,rfl,Z1,tk.same s1⟩
theorem Z0h (T:Txt K mg A)(TD:DictF w K A.Z9e (ZI A)):FnOk P w K mg base (CX1 P w) 9 A.Zb6 A.ZbU ["self","day","man"] (Z7n A):=by
 have Zaf:=@Je P w K mg base A T TD;refine T.Zb4.okX Z24 (λvs H Q E h=>?_) (λcdv A' outer s H vs Q E hr h=>?_)
 ·obtain⟨bk,pa,sn,dl,g,n,day,m,rfl,_⟩:=h;rfl
 ·obtain⟨bk,pa,sn,dl,g,n,day,m,rfl,tk⟩:=h;obtain⟨dx,pg,fu,ps,h1,h2,h3,h4,h5,h6⟩:=id tk.1;refine⟨_,(Z7 (Zo (Y6 (pv 0) T.Z94 ⟨T.Zb7,T.Zar,T.Zai.kp⟩ Zaf (hr.mono (by decide)) T.Zb2 .nil (Ym ZM) (Z0 (pv 1) (Z0 (ZF (Z0 Zb (Z0 (pv 2) Z4))) Z4))))),?_⟩;walk_at "r";refine⟨bk,dx,_,rfl,h1,rfl,?_⟩;walk_at "r";refine⟨by show 2≤sizeLine;decide,λtp htp=>?_⟩;have s1:=Same.new htp (HO.tup [.str "word",.str m]);exact⟨bk,pa,sn,dl,tp,g,n,day,.word m,rfl,Z1,tk.same s1⟩
theorem Z2S (T:Txt K mg A)(TD:DictF w K A.Z9e (ZI A)):FnOk P w K mg base (CX1 P w) 9 A.Zb5 A.ZbQ ["self","day","man"] (Z6W A):=by
 have Zaf:=@Je P w K mg base A T TD;refine T.Zcl.okX Z22 (λvs H Q E h=>?_) (λcdv A' outer s H vs Q E hr h=>?_)
 ·obtain⟨bk,pa,sn,dl,g,n,day,m,rfl,_⟩:=h;rfl
 ·obtain⟨bk,pa,sn,dl,g,n,day,m,rfl,tk⟩:=h;obtain⟨dx,pg,fu,ps,h1,h2,h3,h4,h5,h6⟩:=id tk.1;refine⟨_,(Z7 (Zo (Y6 (pv 0) T.Z94 ⟨T.Zb7,T.Zar,T.Zai.kp⟩ Zaf (hr.mono (by decide)) T.Zb2 .nil (Ym ZM) (Z0 (pv 1) (Z0 (ZF (Z0 Zb (Z0 (pv 2) Z4))) Z4))))),?_⟩;walk_at "r";refine⟨bk,dx,_,rfl,h1,rfl,?_⟩;walk_at "r";refine⟨by show 2≤sizeLine;decide,λtp htp=>?_⟩;have s1:=Same.new htp (HO.tup [.str "flee",.str m]);exact⟨bk,pa,sn,dl,tp,g,n,day,.flee m,rfl,Z1,tk.same s1⟩
end
noncomputable def Z6c (A:Ad):Sp:=λvs H Q _=>∃ (bk pa sn dl:Addr) (g:Pg) (n:Nat),vs=[.ref bk]∧Book5 A H bk pa sn dl g n∧g.sides.length < 64∧∀ p,H p=none→Q (.ref p) (upd H p (.lst ((Yg g.sides).map V.str)))
noncomputable def Z7O (m:Mn):PyData:=.tuple [.str m.1,.str m.2.1,.int m.2.2]
noncomputable def Z3P (ms:List Mn):List PyData:=(W.sortP (ltS (ms.map (·.1))) ms.length).map λi=>Z7O (ms.getD i (Str.empty,Str.empty,0))
noncomputable def Z7K (A:Ad):Sp:=λvs H Q _=>∃ (bk pa sn dl:Addr) (g:Pg) (n:Nat),vs=[.ref bk]∧Book5 A H bk pa sn dl g n∧g.men.length < 64∧(g.men.map (·.1)).Nodup∧∀ p H',H p=none→Same H H'→Rep H' (.ref p) (.list (Z3P g.men))→Q (.ref p) H'
noncomputable def Z5y (A:Ad):Sp:=λvs H Q _=>∃ (bk pa sn dl:Addr) (g:Pg) (n:Nat),vs=[.ref bk]∧Book5 A H bk pa sn dl g n∧∀ p H',Same H H'→H p=none→DlAt H' p g.deeds→Q (.ref p) H'
theorem Z6i {H H2:Hp}{m p:Addr}{o:HO}(kp:∀ c u,H c=some u→c≠m→H2 c=some u)(hz:H2 m=some o)(hp:H2 p=none):H p=none:=by
 cases e:H p with
 | none=>rfl
 | some u=>
   by_cases hc:p=m
   ·subst hc;rw[hz] at hp;cases hp
   ·rw[kp p u e hc] at hp;cases hp
theorem Z1m {ms:List Mn}{i:Nat}(h:i < ms.length):ms[i]? = some (ms.getD i (Str.empty,Str.empty,0)):=by
 simp[h]
theorem Reps.map {H:Hp}{f:Nat→V}{g:Nat→PyData}:∀ (is:List Nat),(∀ i∈is,Rep H (f i) (g i))→Reps H (is.map f) (is.map g)
 | [],_=>.nil
 | i::is,h=>.cons (h i (by simp)) (Reps.map is λj hj=>h j (by simp[hj]))
theorem Reps.strs {H:Hp}:∀ (zs:List Str),Reps H (zs.map V.str) (zs.map PyData.str)
 | []=>.nil
 | z::zs=>.cons (.str z) (Reps.strs zs)
theorem Z7a {H:Hp}{p:Addr}{m:Mn}(h:H p=some (.tup [.str m.1,.str m.2.1,.int m.2.2])):Rep H (.ref p) (Z7O m):=
 .tup h (by show 3 < sizeLine;decide) (.cons (.str _) (.cons (.str _) (.cons (.int _) .nil)))
section
variable {P:Program}{w:World}{K:W.Frag}{mg:Str→Option Value}{base:Heap}{A:Ad}
theorem Jv (T:Txt K mg A):FnOk P w K mg base CX0 1 A.ZaJ A.Zbc ["self"] (Z6c A):=by
 refine T.Z9P.ok Z1R (λvs H Q E h=>?_) (λcdv A' outer s H vs Q E hr h=>?_)
 ·obtain⟨bk,pa,sn,dl,g,n,rfl,_⟩:=h;rfl
 ·obtain⟨bk,pa,sn,dl,g,n,rfl,⟨dx,pg,fu,ps,h1,h2,h3,PA,h5⟩,hl,k⟩:=h;obtain⟨dp,mt,ct,kvs,p1,_⟩:=PA.at';refine⟨_,(Z7 (Zo (Zh (Z3F (K:=K) rfl) rfl T.Zd6 PyProof.Rows.boot_sorted (Z0 (Ze (Ze (pv 0) rfl) rfl) Z4)))),?_⟩;walk_at "r";refine⟨bk,_,_,_,_,rfl,h1,T.Z94,T.Z9k,rfl,?_⟩;refine⟨pg,_,_,_,_,rfl,p1,T.Z96,T.Z9b,rfl,?_⟩;walk_at "r";exact⟨sn,g.sides,rfl,SqL.of PA.hs,hl,k⟩
theorem Z1s (T:Txt K mg A):FnOk P w K mg base CX0 1 A.ZaI A.Zbh ["self"] (Z5y A):=by
 refine T.ZaB.ok Z1P (λvs H Q E h=>?_) (λcdv A' outer s H vs Q E hr h=>?_)
 ·obtain⟨bk,pa,sn,dl,g,n,rfl,_⟩:=h;rfl
 ·obtain⟨bk,pa,sn,dl,g,n,rfl,⟨dx,pg,fu,ps,h1,h2,h3,PA,h5⟩,k⟩:=h;obtain⟨dp,mt,ct,kvs,p1,_⟩:=PA.at';obtain⟨es,f1,f2,f3⟩:=PA.hd;refine⟨_,(Z7 (Zo (Z0g (Z6K (K:=K) rfl) rfl T.Zfg L2.boot_list (Z0 (Ze (Ze (pv 0) rfl) rfl) Z4)))),?_⟩;walk_at "r";refine⟨bk,_,_,_,_,rfl,h1,T.Z94,T.Z9k,rfl,?_⟩;refine⟨pg,_,_,_,_,rfl,p1,T.Z96,T.Z9a,rfl,?_⟩;walk_at "r";refine⟨dl,_,rfl,.inl (SqL.of f1),λp hp=>?_⟩;have s1:=Same.new hp (HO.lst (es.map V.ref));exact k p _ s1 hp ⟨es,Z1,f2,λi d e=>let ⟨x,dd,p,q,r⟩:=f3 i d e;⟨x,dd,p,s1 _ _ q,r.same s1⟩⟩
theorem Z2G (T:Txt K mg A):FnOk P w K mg base CX0 1 A.Zbr A.Zct ["self"] (Z7K A):=by
 refine T.Zd3.ok Z3a (λvs H Q E h=>?_) (λcdv A' outer s H vs Q E hr h=>?_)
 ·obtain⟨bk,pa,sn,dl,g,n,rfl,_⟩:=h;rfl
 ·obtain⟨bk,pa,sn,dl,⟨zs,ms,cc,dss,nxt⟩,n,rfl,⟨dx,pg,fu,ps,h1,h2,h3,PA,h5⟩,hl,nd,k⟩:=h;obtain⟨dp,mt,ct,kvs,p1,p3,p4,_⟩:=PA.at';dsimp only at hl nd k p1 p4;refine⟨_,(Z7 (Zo (Z6X (Zh (Z4g (K:=K) rfl) rfl T.Zd6 PyProof.Rows.boot_sorted (Z0 (Xy (N:=["name","origin"]) (fr:=[none,none]) rfl (XN (osc:=Z3 YB) (ON:=Z3U) (by decide +kernel) rfl rfl) (piD (Z0z (Ze (Ze (pv 0) rfl) rfl))) (λ_ _ _ _=>(pgT (K:=K) (n:=2) rfl rfl (Y8 (Zu (i:=0) (show List.Nodup (["name","origin"]:List Str) by decide +kernel) rfl (Or.inl rfl)) (Y8 (Zu (i:=1) (show List.Nodup (["name","origin"]:List Str) by decide +kernel) rfl (Or.inl rfl)) Jz)))) (λ_ _ _ _=>(ZF (Z0 (pv 0) (Z0 (Zj (ixT (K:=K) rfl) (pv 1) Z5 (λ_ _=>rfl)) (Z0 (Zj (ixT (K:=K) rfl) (pv 1) Z5 (λ_ _=>rfl)) Z4)))))) Z4))))),?_⟩;walk_at "r";refine⟨_,rfl,bk,_,_,_,_,rfl,h1,T.Z94,T.Z9k,rfl,pg,_,_,_,_,rfl,p1,T.Z96,T.Z99,rfl,mt,kvs,rfl,Rd.of p3,λv hv=>?_⟩;have sv:=Same.new hv (Jj v mt);refine⟨v,mt,kvs,rfl,Z1,.inl ⟨sv _ _ p3,λo nf D hD=>?_⟩⟩;have hD0:upd H v (Jj v mt) D=none:=by
   rw[Z2 (Ne.symm (Z6 Z1 hD))] at hD;exact hD
  refine JL kvs.length (λi ys τ H2=>(∀ c u,H c=some u→c≠mt→H2 c=some u)∧H2 mt=some (.frz o (.dK kvs))∧H2 D=some (.lst ys)∧
   (∃ qs:List Addr,ys=qs.map V.ref∧qs.length=i∧∀ j m,j < i→ms[j]? = some m→∃ q,qs[j]? = some q∧H2 q=some (.tup [.str m.1,.str m.2.1,.int m.2.2]))∧∃ a b,τ=[a,b])
   ⟨λc u e ne=>?_,?_,Z1,⟨[],rfl,rfl,λj m hj=>absurd hj (Nat.not_lt_zero _)⟩,none,none,rfl⟩ (λi bs τ H2 _ q=>q.2.2.1) ?_ ?_
  ·rw[Z2 (Z6 (sv _ _ e) hD0),Z2 ne];exact sv _ _ e
  ·rw[Z2 (Z6 (sv _ _ p3) hD0),Z1]
  ·rintro i ys τ H2 hi ⟨kp,hz,hDy,⟨qs,rfl,hq,hr⟩,a,b,rfl⟩;refine⟨⟨hz,hi⟩,ZR (by have:=p4.1;rw[List.length_map];omega),?_⟩;rintro x' H3 ⟨p,kk,x,rfl,hp,rfl,ek⟩;have hims:i < ms.length:=by rw[←p4.1];exact hi
   obtain⟨tp,e1,e2⟩:=p4.2 i _ (Z1m hims);rw[ek] at e1;have e3:kk=Sum.inr (ms.getD i (Str.empty,Str.empty,0)).1∧x=V.ref tp:=by
    injection e1 with e;injection e with e e';exact⟨e,e'⟩
   obtain⟨rfl,rfl⟩:=e3;refine⟨p,_,rfl,SqT.of Z1,rfl,_,[V.ref tp],rfl,_,[],rfl,rfl,?_⟩;have sp:=Same.new hp (HO.tup [kV (Sum.inr (ms.getD i (Str.empty,Str.empty,0)).1),V.ref tp]);have etp:=sp _ _ (kp _ _ e2 (Zk e2 p3 (by simp)));walk_at "r";refine⟨tp,_,0,_,rfl,rfl,SqT.of etp,rfl,?_⟩;walk_at "r";refine⟨tp,_,1,_,rfl,rfl,SqT.of etp,rfl,?_⟩;walk_at "r";refine⟨by show 3≤sizeLine;decide,λq hq0=>?_⟩;have sq:=Same.new hq0 (HO.tup [kV (Sum.inr (ms.getD i (Str.empty,Str.empty,0)).1),.str (ms.getD i (Str.empty,Str.empty,0)).2.1,.int (ms.getD i (Str.empty,Str.empty,0)).2.2]);have S:=sp.trans sq;refine⟨S _ _ hDy,λc u e ne=>?_,?_,Z1,⟨qs++[q],by rw[List.map_append];rfl,by simp[hq],λj m hj em=>?_⟩,_,_,rfl⟩
   ·rw[Z2 (Z6 (sv _ _ e) hD0)];exact S _ _ (kp c u e ne)
   ·rw[Z2 (Z6 (sv _ _ p3) hD0)];exact S _ _ hz
   ·by_cases hj2:j < i
    ·obtain⟨q',e4,e5⟩:=hr j m hj2 em;refine⟨q',by rw[List.getElem?_append,if_pos (by omega)];exact e4,?_⟩;rw[Z2 (Zk e5 hDy (by simp))];exact S _ _ e5
    ·have:j=i:=by omega
     subst this;rw[Z1m hims] at em;cases em;refine⟨q,by rw[List.getElem?_append,if_neg (by omega),hq,Nat.sub_self];rfl,?_⟩;rw[Z2 (Ne.symm (Z6 (sp _ _ hDy) hq0)),Z1];rfl
  ·rintro ys τ H2 ⟨kp,hz,hDy,⟨qs,rfl,hq,hr⟩,a,b,rfl⟩;refine⟨⟨hz,Nat.le_refl _⟩,?_⟩;walk_at "r";have lq:qs.length=(ms.map (·.1)).length:=by rw[hq,p4.1,List.length_map]
   have gt:∀ i,i < ms.length→H2 (qs.getD i 0)=some (.tup [.str (ms.getD i (Str.empty,Str.empty,0)).1,.str (ms.getD i (Str.empty,Str.empty,0)).2.1,.int (ms.getD i (Str.empty,Str.empty,0)).2.2]):=λi hi=>by
    obtain⟨q,e4,e5⟩:=hr i _ (by rw[p4.1];exact hi) (Z1m hi);rw[List.getD_eq_getElem?_getD,e4];exact e5
   have nm:∀ i,i < ms.length→(ms.map (·.1)).getD i Str.empty=(ms.getD i (Str.empty,Str.empty,0)).1:=λi hi=>by simp[hi]
   refine⟨D,qs,ms.map (·.1),rfl,SqL.of hDy,lq,by rw[List.length_map];exact hl,nd,λi hi=>?_,λp hp=>?_⟩
   ·rw[List.length_map] at hi;refine⟨_,by rw[nm i hi];exact gt i hi,λv hv=>?_⟩;simp only[List.mem_cons,List.mem_nil_iff,or_false] at hv
    rcases hv with rfl|rfl<;>rfl
   ·have sp:=Same.new hp (HO.lst ((W.sortP (ltS (ms.map (·.1))) (ms.map (·.1)).length).map λi=>V.ref (qs.getD i 0)));have hz':=sp _ _ hz;refine⟨_,.inr ⟨mt,o,kvs,nf,hz',rfl⟩,k p _ (Z6i kp hz hp) (λc u e=>?_) ?_⟩
    ·by_cases hc:c=mt
     ·subst hc;rw[p3] at e;cases e;exact Z1
     ·rw[Z2 hc];exact sp _ _ (kp c u e hc)
    ·have npm:p≠mt:=Ne.symm (Z6 hz hp);refine .lst (by rw[Z2 npm,Z1]) (ZR (by rw[List.length_map,W.sortP_length,List.length_map];omega)) ?_;unfold Z3P;rw[List.length_map];refine Reps.map _ λi hi=>?_;have hi':i < ms.length:=W.sortP_lt _ _ i hi;refine Z7a ?_;have e6:=sp _ _ (gt i hi');rw[Z2 (Zk e6 hz' (by simp))];rw[List.length_map] at e6;exact e6
end
noncomputable def Abc (z:Str):Prop:=∀ c∈z.cps.toList,c∈abc.cps.toList
theorem Abc.append {x y:Str}(h:Abc x)(g:Abc y):Abc (x++y):=λc hc=>by
 have e:(x++y).cps.toList=x.cps.toList++y.cps.toList:=by
  show (x.cps++y.cps).toList=_;simp
 rw[e] at hc
 rcases List.mem_append.mp hc with h1|h1
 ·exact h c h1
 ·exact g c h1
theorem Abc.empty:Abc "":=λc hc=>by
 have:c∈([]:List Nat):=hc;simp at this
theorem Abc.joinS:∀ (zs:List Str),(∀ z∈zs,Abc z)→Abc (Str.join "" zs)
 | [],_=>Abc.empty
 | [x],h=>h x (by simp)
 | x::y::r,h=>by
   have e:=Abc.joinS (y::r) λz hz=>h z (by simp at hz ⊢;exact .inr hz);show Abc (x++""++Str.join "" (y::r));exact ((h x (by simp)).append Abc.empty).append e
theorem Abc.join {zs:List Str}(h:∀ z∈zs,Abc z):Abc (Txt.join "" zs):=by
 show Abc (Builtin.Str.glued "" zs);rw[StrLaws.glued_eq_join];exact Abc.joinS zs h
theorem Abc.slice {z:Str}(h:Abc z)(l u:Option Int):Abc (Txt.slice z l u):=by
 unfold Txt.slice
 split
 ·exact h
 ·intro c hc;have hc':c∈(Builtin.Str.strSliceIndices l u 1 z.length).filterMap (z.cps[·]?):=by simpa using hc
  obtain⟨i,_,e⟩:=List.mem_filterMap.mp hc';refine h c ?_;have:=Array.mem_of_getElem? e
  simpa using this
theorem Abc.one {r:Int}{c:Nat}(h:atI abc.cps.toList r=some c):Abc ⟨#[c]⟩:=λd hd=>by
 have:d=c:=by simpa using hd
 rw[this];unfold atI at h;obtain⟨j,_,e⟩:=Option.bind_eq_some_iff.mp h;exact List.mem_of_getElem? e
theorem Z8k:∀ c∈abc.cps.toList,inT ⟨#[c]⟩ abc=true:=by decide +kernel
theorem Abc.good {z:Str}(h:Abc z)(h1:1≤z.length)(h8:z.length≤8):Yh z=true:=by
 unfold Yh;rw[decide_eq_true (by omega:(1:Int)≤(z.length:Int)),decide_eq_true (by omega:(z.length:Int)≤8)];unfold Z1X Xz;rw[Bool.true_and,Bool.true_and,List.all_map,List.all_eq_true];exact λc hc=>Z8k c (h c hc)
theorem Z8b {z:Str}:(Txt.slice z none (some 6)).length≤6:=by
 unfold Txt.slice;have e:(Builtin.Str.strSliceIndices none (some 6) 1 z.length).length≤6:=by
  unfold Builtin.Str.strSliceIndices sliceRange;simp only[show (1:Int) > 0 by decide,if_true,List.length_map,List.length_range]
  split<;>(try split)<;>(try split)<;>(try simp only[Int.ediv_one])<;>omega
 split
 ·rename_i h;have:(Builtin.Str.strSliceIndices none (some 6) 1 z.length).length=z.length:=by simpa using h
  omega
 ·show (List.filterMap _ (Builtin.Str.strSliceIndices none (some 6) 1 z.length)).toArray.size≤6;rw[List.size_toArray];exact Nat.le_trans (List.length_filterMap_le _ _) e
noncomputable def Nm (i:Nat)(z:Str):Prop:=Abc z∧∃ r:List Nat,z.cps.toList=(97 + i % 26)::(97 + i / 26)::r∧r.length≤6
theorem Nm.good {i:Nat}{z:Str}(h:Nm i z):Yh z=true:=by
 obtain⟨a,r,e,l⟩:=h;have:z.length=r.length + 2:=by
  show z.cps.size=_;rw[←Array.length_toList,e];rfl
 exact a.good (by omega) (by omega)
theorem Nm.size {i:Nat}{z:Str}(h:Nm i z):z.cps.size≤8:=by
 obtain⟨a,r,e,l⟩:=h;rw[←Array.length_toList,e];simp only[List.length_cons];omega
theorem Nm.ne {i j:Nat}{x y:Str}(h:Nm i x)(g:Nm j y)(n:i≠j):x≠y:=λe=>by
 obtain⟨_,r,e1,_⟩:=h;obtain⟨_,q,e2,_⟩:=g;rw[e,e2] at e1;have q1:=(List.cons.inj e1).1;have q2:=(List.cons.inj (List.cons.inj e1).2).1;omega
noncomputable def Z5C:Sp:=λvs H Q _=>∃ (b l al:Addr) (ns:List Int),vs=[.ref b,.ref al]∧BoxAt H b l ns∧H al=some (.lst [])∧al≠b∧
 ∀ (z:Str) (H':Hp),Abc z→z.cps.size≤8→BoxAt H' b l ns→Keep b H H'→Q (.str z) H'
noncomputable def NmL (zs:List Str):Prop:=∀ i z,zs[i]? = some z→Nm i z
noncomputable def Z7G:Sp:=λvs H Q _=>∃ (b l:Addr) (ns:List Int) (m:Int),vs=[.ref b,.int m]∧BoxAt H b l ns∧1≤m∧m≤60∧
 ∀ (p:Addr) (zs:List Str) (H':Hp),H p=none→BoxAt H' b l ns→H' p=some (.lst (zs.map V.str))→NmL zs→(zs.length:Int)=m→Keep b H H'→Q (.ref p) H'
theorem Z4C {i:Nat}(h:i < 26):atI abc.cps.toList (i:Int)=some (97 + i):=by
 refine ZG ?_;have:∀ j:Fin 26,abc.cps.toList[j.val]? = some (97 + j.val):=by decide +kernel
 exact this ⟨i,h⟩
section
variable {P:Program}{w:World}{K:W.Frag}{mg:Str→Option Value}{base:Heap}{A:Ad}
theorem Z4r (T:Txt K mg A):FnOk P w K mg base CX0 3 A.Zen A.Zdy ["_law_box_here","_law_alike"] Z5C:=by
 have Z9Y:=@Z2v P w K mg base A T;refine T.Zem.ok Zc9 (λvs H Q E h=>?_) (λcdv A' outer s H vs Q E hr h=>?_)
 ·obtain⟨b,l,al,ns,rfl,_⟩:=h;rfl
 ·obtain⟨b,l,al,ns,rfl,hB,hal,nal,k⟩:=h;refine⟨_,(Z8 (Zi (i:=2) Zc9.nd rfl (Or.inr rfl) Zb)
   (Z8 (Zi (i:=3) Zc9.nd rfl (Or.inl rfl) (Zd ZE Z5 (Zc Z9Y (hr.mono (by decide)) rfl T.Z9X T.Z9Q.kp T.Z9W .nil Zg (Z0 (pv 0) (Z0 Z5 Z4)))))
   (Z8 (Zi (i:=4) Zc9.nd rfl (Or.inl rfl) (Z0V PySem.F.plainAttrs_str PySem.F.slot_str_join PySem.F.type_str_join (Z3n (K:=K) rfl) Zb (Z0 (Xy (N:=["_law_at","_law_letters","_law_box_here"]) (fr:=[none,some 2,some 0]) rfl (XN (osc:=Z3 Xf) (ON:=Z6q) (by decide +kernel) rfl rfl) (XQ rfl T.Zbu (Z0 (pv 3) Z4)) (λ_ _ _ _=>(Zu (i:=0) (show List.Nodup (["_law_at","_law_letters","_law_box_here"]:List Str) by decide +kernel) rfl (Or.inl rfl))) (λ_ _ _ _=>(Zj Z0S (pv 1) (Zc Z9Y (hr.mono (by decide)) rfl T.Z9X T.Z9Q.kp T.Z9W .nil Zg (Z0 (pv 2) (Z0 Z5 Z4))) (λ_ _=>rfl)))) Z4)))
   (Z8 (ZD (PW.pt (Z0P (Zm Yz (Zh (Z05 (K:=K) rfl) rfl T.ZaF PySem.boot_len (Z0 (pv 1) Z4)) Z5 (Zs _)) (Z0Q (Zm Yz (Zc Z9Y (hr.mono (by decide)) rfl T.Z9X T.Z9Q.kp T.Z9W .nil Zg (Z0 (pv 0) (Z0 Z5 Z4))) Z5 (Zs _))))) (Z7 (Zo (pv 4))) Zq)
   (Z8 Yn
   (Z8 Yn
   (Z7 Yn))))))),?_⟩
  walk_at "r";refine⟨b,l,ns,8,rfl,hB,by decide,by decide,λr1 H1 h10 h11 B1 k1 _=>?_⟩;walk_at "r";refine⟨rfl,?_⟩;walk_at "r";refine⟨_,rfl,1 + r1,rfl,by omega,by omega,λD hD=>?_⟩;obtain⟨nD,nDl,BD⟩:=B1.new (o:=.lst []) hD;refine JL (1 + r1).toNat (λi ys τ H2=>(∃ ws:List Str,ys=ws.map V.str∧ws.length=i∧(∀ x∈ws,x.length=1)∧∀ x∈ws,Abc x)∧H2 D=some (.lst ys)∧BoxAt H2 b l ns∧Keep b H1 H2∧∃ u,τ=[u,some (.str abc),some (.ref b)])
   ⟨⟨[],rfl,rfl,λx h=>by simp at h,λx h=>by simp at h⟩,Z1,BD,Keep.new hD,none,rfl⟩ (λi ys τ H2 _ q=>q.2.1) ?_ ?_
  ·rintro i ys τ H2 hi ⟨⟨ws,rfl,hw,h1,ha⟩,hDz,B2,k2,u,rfl⟩;refine⟨hi,ZR (by rw[List.length_map];omega),?_⟩;rintro x' H3 ⟨rfl,rfl⟩;walk_at "r";refine⟨b,l,ns,26,rfl,B2,by decide,by decide,λr2 H3 h20 h21 B3 k3 _=>?_⟩;obtain⟨c,hc⟩:=Z7Q h20 h21;refine⟨abc,r2,c,rfl,rfl,ZC (by decide +kernel),hc,?_⟩;have hD3:=k3 _ _ hDz nD;refine⟨hD3,⟨ws++[⟨#[c]⟩],by rw[List.map_append];rfl,by simp[hw],λx hx=>?_,λx hx=>?_⟩,Z1,B3.put nD nDl,λd o e ne=>?_,_,rfl⟩
   ·rcases List.mem_append.mp hx with e|e
    ·exact h1 x e
    ·rw[List.mem_singleton.mp e];rfl
   ·rcases List.mem_append.mp hx with e|e
    ·exact ha x e
    ·rw[List.mem_singleton.mp e];exact Abc.one hc
   ·rw[Z2 (Z6 e hD)];exact k3 _ _ (k2 _ _ e ne) ne
  ·rintro ys τ H2 ⟨⟨ws,rfl,hw,h1,ha⟩,hDz,B2,k2,u,rfl⟩;refine⟨Nat.le_refl _,?_⟩;obtain⟨j1,j2⟩:=Z7T h1 (by omega);walk_at "r";refine⟨_,D,ws,rfl,rfl,SqL.of hDz,j1,?_⟩;have hl8:(Txt.join "" ws).cps.size≤8:=by
    have:(Txt.join "" ws).length=ws.length:=j2;show (Txt.join "" ws).length≤8;omega
   have hj:=Abc.join ha;generalize Txt.join "" ws=wd at hl8 hj;have k12:=k1.trans k2;walk_at "r";refine⟨al,_,rfl,.inl (SqL.of (k12 _ _ hal nal)),?_⟩;walk_at "r";refine Y1 (by decide) ?_;walk_at "r";refine Y1 rfl ?_;walk_at "r";exact k wd H2 hj hl8 B2 k12
theorem Z5M (T:Txt K mg A):FnOk P w K mg base CX0 4 A.Zbk A.ZaK ["_law_box_here","_law_many"] Z7G:=by
 have Zgn:=@Z4r P w K mg base A T;refine T.Zaj.ok ZcP (λvs H Q E h=>?_) (λcdv A' outer s H vs Q E hr h=>?_)
 ·obtain⟨b,l,ns,m,rfl,_⟩:=h;rfl
 ·obtain⟨b,l,ns,m,rfl,hB,hm1,hm2,k⟩:=h;refine⟨_,(Z8 (Zi (i:=2) ZcP.nd rfl (Or.inr rfl) Zb)
   (Z7 (Zo (Xy (N:=["_law_at","_law_letters","_law_box_here"]) (fr:=[none,some 2,some 0]) rfl (XN (osc:=Z3 Y7) (ON:=Z1W) (by decide +kernel) rfl rfl) (XQ rfl T.Zbu (Z0 (pv 1) Z4)) (λ_ _ _ _=>(Zu (i:=0) (show List.Nodup (["_law_at","_law_letters","_law_box_here"]:List Str) by decide +kernel) rfl (Or.inl rfl))) (λ_ _ _ _=>(Zd JB (Zd JB (Zj Z0S (pv 1) (Zd Y9 (pv 0) Z5) (λ_ _=>rfl)) (Zj Z0S (pv 1) (Zd Jw (pv 0) Z5) (λ_ _=>rfl))) (Z5o Z8n (Zc Zgn (hr.mono (by decide)) rfl T.Zfr T.Zem.kp T.Zfs .nil Zg (Z0 (pv 2) (Z0 (ZL Z4) Z4))) Z6U (Z6R Z5)))))))),?_⟩
  walk_at "r";refine⟨_,rfl,m,rfl,by omega,by omega,λD hD=>?_⟩;obtain⟨nD,nDl,BD⟩:=hB.new (o:=.lst []) hD;refine JL m.toNat (λi ys τ H2=>(∃ zs:List Str,ys=zs.map V.str∧zs.length=i∧NmL zs)∧H2 D=some (.lst ys)∧BoxAt H2 b l ns∧Keep b H H2∧∃ u,τ=[u,some (.str abc),some (.ref b)])
   ⟨⟨[],rfl,rfl,λi x h=>by simp at h⟩,Z1,BD,Keep.new hD,none,rfl⟩ (λi ys τ H2 _ q=>q.2.1) ?_ ?_
  ·rintro i ys τ H2 hi ⟨⟨zs,rfl,hw,h1⟩,hDz,B2,k2,u,rfl⟩;refine⟨hi,ZR (by rw[List.length_map];omega),?_⟩;rintro x' H3 ⟨rfl,rfl⟩;walk_at "r";have e1:((0:Int) + (i:Int)) % 26=((i % 26:Nat):Int):=by omega
   have e2:((0:Int) + (i:Int)) / 26=((i / 26:Nat):Int):=by omega
   rw[e1];have c1:=Z4C (i:=i % 26) (by omega);have c2:=Z4C (i:=i / 26) (by omega);refine⟨abc,_,_,rfl,rfl,ZC (by decide +kernel),c1,?_⟩;walk_at "r";rw[e2];refine⟨abc,_,_,rfl,rfl,ZC (by decide +kernel),c2,?_⟩;refine⟨_,_,rfl,rfl,ZC (show 1 + 1≤1000 by decide),?_⟩;walk_at "r";refine⟨by show 0≤sizeLine;decide,λal hal=>?_⟩;obtain⟨nal,nall,Bal⟩:=B2.new (o:=.lst []) hal;have sal:=Same.new hal (HO.lst []);walk_at "r";refine⟨b,l,al,ns,rfl,Bal,Z1,nal,λz H4 hz hz8 B4 k4=>?_⟩;walk_at "r";refine⟨_,rfl,z,rfl,ZC (show z.cps.size≤1000 by omega),?_⟩;have s6:=Z8b (z:=z);refine⟨_,_,rfl,rfl,ZC (show 2 + (Txt.slice z none (some 6)).length≤1000 by omega),?_⟩;have hD4:=k4 _ _ (sal _ _ hDz) nD;have nm:Nm i ((⟨#[97 + i % 26]⟩:Str)++⟨#[97 + i / 26]⟩++Txt.slice z none (some 6)):=by
    refine⟨((Abc.one c1).append (Abc.one c2)).append (hz.slice _ _),(Txt.slice z none (some 6)).cps.toList,?_,?_⟩
    ·show ((#[97 + i % 26]++#[97 + i / 26])++(Txt.slice z none (some 6)).cps).toList=_;simp
    ·rw[Array.length_toList];exact s6
   refine⟨hD4,⟨zs++[_],by rw[List.map_append];rfl,by simp[hw],λj x hx=>?_⟩,Z1,B4.put nD nDl,λd o e ne=>?_,_,rfl⟩
   ·by_cases hj:j < zs.length
    ·rw[List.getElem?_append_left hj] at hx;exact h1 j x hx
    ·have hj2:j=i:=by
      have:=(List.getElem?_eq_some_iff.mp hx).1;simp at this;omega
     subst hj2;rw[List.getElem?_append_right (by omega),hw,Nat.sub_self] at hx;obtain rfl:=Option.some.inj hx;exact nm
   ·rw[Z2 (Z6 e hD)];exact k4 _ _ (sal _ _ (k2 _ _ e ne)) ne
  ·rintro ys τ H2 ⟨⟨zs,rfl,hw,h1⟩,hDz,B2,k2,u,rfl⟩;refine⟨Nat.le_refl _,?_⟩;walk_at "r";exact k D zs H2 hD B2 hDz h1 (by omega) k2
end
@[irreducible] def QS (X:Cx) (s:Stmt) (t:TS):Prop:=PS X s t
@[irreducible] def QSs (X:Cx) (b:List Stmt) (t:TS):Prop:=PSs X b t
theorem ZJ {X:Cx}{s:Stmt}{t:TS}(h:PS X s t):QS X s t:=by unfold QS;exact h
theorem Z7W {X:Cx}{b:List Stmt}{t:TS}(h:QSs X b t):PSs X b t:=by unfold QSs at h;exact h
theorem Z6C {X:Cx}{s:Stmt}{t:TS}(h:QS X s t):QSs X [s] t:=by unfold QS at h;unfold QSs;exact Z7 h
theorem Zr {X:Cx}{s:Stmt}{b:List Stmt}{t u:TS}(h:QS X s t)(k:QSs X b u):QSs X (s::b) (Z2c t u):=by unfold QS at h;unfold QSs at k ⊢;exact Z8 h k
@[irreducible] def QE (X:Cx) (e:Expr) (t:TE):Prop:=PE X e t
@[irreducible] def QA (X:Cx) (es:List Expr) (t:TA):Prop:=PA X es t
theorem Zw {X:Cx}{e:Expr}{t:TE}(h:PE X e t):QE X e t:=by unfold QE;exact h
theorem Z6w {X:Cx}{es:List Expr}{t:TA}(h:QA X es t):PA X es t:=by unfold QA at h;exact h
theorem Z2M {X:Cx}:QA X [] Z0b:=by unfold QA;exact Z4
theorem Zn {X:Cx}{e:Expr}{es:List Expr}{t:TE}{ts:TA}(h:QE X e t)(r:QA X es ts)(s:starEach (e::es) X.env=(false,eval e X.env)::starEach es X.env:=by rfl):QA X (e::es) (Jp t ts):=by unfold QE at h;unfold QA at r ⊢;exact Z0 h r s
theorem Z4P {X:Cx}{i:Nat}{x:Str}{es:List Expr}{t:TA}{lpos pos pos':Pos}(hN:X.N.Nodup)(hi:X.N[i]? = some x)(hx:Loc X.env.scope x)(h:QA X es t)(hs:swapsWith (.List es lpos) (some (.Name x pos')) pos.line X.env=pure false:=by rfl)(hf:X.fn x=true∨X.env.scope.names.lookup x=some .local:=by first|exact .inl rfl|exact .inr rfl|assumption) :
 QS X (.Assign [.Name x pos'] (.List es lpos) pos) (Z1u (Z4i t) (XF i)):=ZJ (Zi hN hi hx (ZL (Z6w h)) hs hf)
theorem Z5B {X:Cx}{i:Nat}{x:Str}{a:Expr}{ta:TE}{es:List Expr}{t:TA}{lpos bpos pos pos':Pos}(hN:X.N.Nodup)(hi:X.N[i]? = some x)(hx:Loc X.env.scope x)(ha:QE X a ta)(h:QA X es t)(hs:swapsWith (.BinOp a .Add (.List es lpos) bpos) (some (.Name x pos')) pos.line X.env=pure false:=by rfl)(hf:X.fn x=true∨X.env.scope.names.lookup x=some .local:=by first|exact .inl rfl|exact .inr rfl|assumption) :
 QS X (.Assign [.Name x pos'] (.BinOp a .Add (.List es lpos) bpos) pos) (Z1u (tOp Z83 ta (Z4i t)) (XF i)):=ZJ (Zi hN hi hx (Zd X2 (by unfold QE at ha;exact ha) (ZL (Z6w h))) hs hf)
theorem pa4 {X:Cx}{e0 e1 e2 e3:Expr}{t0 t1 t2 t3:TE}(h0:PE X e0 t0)(h1:PE X e1 t1)(h2:PE X e2 t2)(h3:PE X e3 t3)(s0:starEach [e0,e1,e2,e3] X.env=(false,eval e0 X.env)::starEach [e1,e2,e3] X.env:=by rfl)(s1:starEach [e1,e2,e3] X.env=(false,eval e1 X.env)::starEach [e2,e3] X.env:=by rfl)(s2:starEach [e2,e3] X.env=(false,eval e2 X.env)::starEach [e3] X.env:=by rfl)(s3:starEach [e3] X.env=(false,eval e3 X.env)::starEach [] X.env:=by rfl):PA X [e0,e1,e2,e3] (Jp t0 (Jp t1 (Jp t2 (Jp t3 Z0b)))):=(Z0 h0 (Z0 h1 (Z0 h2 (Z0 h3 Z4 s3) s2) s1) s0)
noncomputable abbrev words:List Str:=["BadName","Taken","Full","NoSide","NoMan","BadRank","Own","BadTariff","BadLimit","BadDay","NoCartel","NoMen","Twice","Gone","Held","NotHeld","OffRoll","Uneven","NoDeed","Breaks"]
noncomputable def J9 (i:Nat):List Bool:=(List.range 20).map λj=>i == j
theorem Z3m {i:Nat}(h:i < 20):(J9 i).countP (· == true)=1:=by
 have:∀ j:Fin 20,(J9 j.val).countP (· == true)=1:=by decide +kernel
 exact this ⟨i,h⟩
theorem Z2R {i j:Nat}(h:j < 20):(J9 i)[j]? = some (i == j):=by
 unfold J9;rw[List.getElem?_map,List.getElem?_range h];rfl
theorem Z5J {i:Nat}(h:i < 20):atI (words.map V.str) (i:Int)=some (.str (words.getD i "")):=by
 refine ZG ?_;rw[List.getElem?_map,List.getElem?_eq_getElem (show i < words.length from h),List.getD_eq_getElem?_getD,List.getElem?_eq_getElem (show i < words.length from h)];rfl
noncomputable def Z2H (A:Ad):Sp:=λvs H Q _=>∃ (x:Addr) (o:HO) (i:Nat),vs=[.ref x]∧H x=some o∧IsX o x ((Cs A).getD i 0)∧i < 20∧∀ H',Same H H'→Q (.str (words.getD i "")) H'
section
variable {P:Program}{w:World}{K:W.Frag}{mg:Str→Option Value}{base:Heap}{A:Ad}
theorem Z3f (T:Txt K mg A):FnOkM P w K mg base 1 A.Zc5 A.Zbt ["_law_e"] (Z2H A):=by
 refine T.Zdq.okM Z9G (λvs H Q E h=>?_) (λcdv A' y outer s H vs Q hr h=>?_)
 ·obtain⟨x,o,i,rfl,_⟩:=h;rfl
 ·obtain⟨x,o,i,rfl,hx,hi,h20,k⟩:=h;have XB:=Z8J T.Zgl (i:=i) h20;have tab:∀ j,j < 20→W.kitOne K (.ref ((Cs A).getD i 0)) (.ref ((Cs A).getD j 0))=some (i == j):=λj hj=>Z8N T.Zgu h20 hj;refine⟨_,(Z7W (Zr (ZJ (Zi (i:=1) Z9G.nd rfl (Or.inl rfl) (ZL (pa4 (Zh (ZH (K:=K) rfl) rfl T.Z95 L2.boot_isinstance (Z0 (pv 0) (Z0 (Zy (v:=.ref A.Z9h) rfl T.Zds rfl) Z4))) (Zh (ZH (K:=K) rfl) rfl T.Z95 L2.boot_isinstance (Z0 (pv 0) (Z0 (Zy (v:=.ref A.Z9u) rfl T.ZeO rfl) Z4))) (Zh (ZH (K:=K) rfl) rfl T.Z95 L2.boot_isinstance (Z0 (pv 0) (Z0 (Zy (v:=.ref A.Z9B) rfl T.ZfA rfl) Z4))) (Zh (ZH (K:=K) rfl) rfl T.Z95 L2.boot_isinstance (Z0 (pv 0) (Z0 (Zy (v:=.ref A.Z9p) rfl T.Zel rfl) Z4)))))))
   (Zr (ZJ (Zi (i:=1) Z9G.nd rfl (Or.inl rfl) (Zd X2 (pv 1) (ZL (pa4 (Zh (ZH (K:=K) rfl) rfl T.Z95 L2.boot_isinstance (Z0 (pv 0) (Z0 (Zy (v:=.ref A.Z9w) rfl T.ZeN rfl) Z4))) (Zh (ZH (K:=K) rfl) rfl T.Z95 L2.boot_isinstance (Z0 (pv 0) (Z0 (Zy (v:=.ref A.Z9j) rfl T.Zdp rfl) Z4))) (Zh (ZH (K:=K) rfl) rfl T.Z95 L2.boot_isinstance (Z0 (pv 0) (Z0 (Zy (v:=.ref A.Za1) rfl T.Zgw rfl) Z4))) (Zh (ZH (K:=K) rfl) rfl T.Z95 L2.boot_isinstance (Z0 (pv 0) (Z0 (Zy (v:=.ref A.Z9c) rfl T.ZdY rfl) Z4))))))))
   (Zr (ZJ (Zi (i:=1) Z9G.nd rfl (Or.inl rfl) (Zd X2 (pv 1) (ZL (pa4 (Zh (ZH (K:=K) rfl) rfl T.Z95 L2.boot_isinstance (Z0 (pv 0) (Z0 (Zy (v:=.ref A.Z9f) rfl T.ZeB rfl) Z4))) (Zh (ZH (K:=K) rfl) rfl T.Z95 L2.boot_isinstance (Z0 (pv 0) (Z0 (Zy (v:=.ref A.Z9q) rfl T.Zeg rfl) Z4))) (Zh (ZH (K:=K) rfl) rfl T.Z95 L2.boot_isinstance (Z0 (pv 0) (Z0 (Zy (v:=.ref A.Z9g) rfl T.Zer rfl) Z4))) (Zh (ZH (K:=K) rfl) rfl T.Z95 L2.boot_isinstance (Z0 (pv 0) (Z0 (Zy (v:=.ref A.Z9z) rfl T.ZfT rfl) Z4))))))))
   (Zr (ZJ (Zi (i:=1) Z9G.nd rfl (Or.inl rfl) (Zd X2 (pv 1) (ZL (pa4 (Zh (ZH (K:=K) rfl) rfl T.Z95 L2.boot_isinstance (Z0 (pv 0) (Z0 (Zy (v:=.ref A.Z9x) rfl T.ZfW rfl) Z4))) (Zh (ZH (K:=K) rfl) rfl T.Z95 L2.boot_isinstance (Z0 (pv 0) (Z0 (Zy (v:=.ref A.Z9H) rfl T.Zgj rfl) Z4))) (Zh (ZH (K:=K) rfl) rfl T.Z95 L2.boot_isinstance (Z0 (pv 0) (Z0 (Zy (v:=.ref A.Z9F) rfl T.Zgk rfl) Z4))) (Zh (ZH (K:=K) rfl) rfl T.Z95 L2.boot_isinstance (Z0 (pv 0) (Z0 (Zy (v:=.ref A.Z9m) rfl T.ZeX rfl) Z4))))))))
   (Zr (ZJ (Zi (i:=1) Z9G.nd rfl (Or.inl rfl) (Zd X2 (pv 1) (ZL (pa4 (Zh (ZH (K:=K) rfl) rfl T.Z95 L2.boot_isinstance (Z0 (pv 0) (Z0 (Zy (v:=.ref A.Z9l) rfl T.Zf3 rfl) Z4))) (Zh (ZH (K:=K) rfl) rfl T.Z95 L2.boot_isinstance (Z0 (pv 0) (Z0 (Zy (v:=.ref A.Z9t) rfl T.Zfu rfl) Z4))) (Zh (ZH (K:=K) rfl) rfl T.Z95 L2.boot_isinstance (Z0 (pv 0) (Z0 (Zy (v:=.ref A.Z9s) rfl T.Zfq rfl) Z4))) (Zh (ZH (K:=K) rfl) rfl T.Z95 L2.boot_isinstance (Z0 (pv 0) (Z0 (Zy (v:=.ref A.Z9d) rfl T.Zfj rfl) Z4))))))))
   (Zr (Z4P (i:=2) Z9G.nd rfl (Or.inl rfl) (Zn (Zw Zb) (Zn (Zw Zb) (Zn (Zw Zb) (Zn (Zw Zb) (Zn (Zw Zb) (Zn (Zw Zb) (Zn (Zw Zb) (Zn (Zw Zb) (Zn (Zw Zb) (Zn (Zw Zb) Z2M)))))))))))
   (Zr (Z5B (i:=2) Z9G.nd rfl (Or.inl rfl) (Zw (pv 2)) (Zn (Zw Zb) (Zn (Zw Zb) (Zn (Zw Zb) (Zn (Zw Zb) (Zn (Zw Zb) (Zn (Zw Zb) (Zn (Zw Zb) (Zn (Zw Zb) (Zn (Zw Zb) (Zn (Zw Zb) Z2M)))))))))))
   (Zr (ZJ (ZD (PW.pt (Z0P (Zm Jm (Z0V PySem.F.plainAttrs_list PySem.F.slot_list_count PySem.F.type_list_count Z5i (pv 1) (Z0 XE Z4)) Z5 (Zs _)) (Z0Q (JW (Z15 (Zh (ZH (K:=K) rfl) rfl T.Z95 L2.boot_isinstance (Z0 (pv 0) (Z0 (Z7t (v:=.ty "ValueError") rfl T.Zdt L2.boot_ValueError rfl) Z4)))))))) (Z7 (Zo Zb)) Zq))
   (Z6C (ZJ (Zo (Zj (ixL (K:=K) rfl) (pv 2) (Z0V PySem.F.plainAttrs_list PySem.F.slot_list_index PySem.F.type_list_index Z50 (pv 1) (Z0 XE Z4)) (λ_ _=>rfl)))))))))))))),?_⟩
  walk_at "r";refine⟨x,_,_,_,_,o,rfl,ZK,hx,hi,XB.1,T.Z9D,tab 0 (by decide),?_⟩;walk_at "r";refine⟨x,_,_,_,_,o,rfl,ZK,hx,hi,XB.1,T.Z9D,tab 1 (by decide),?_⟩;walk_at "r";refine⟨x,_,_,_,_,o,rfl,ZK,hx,hi,XB.1,T.Z9D,tab 2 (by decide),?_⟩;walk_at "r";refine⟨x,_,_,_,_,o,rfl,ZK,hx,hi,XB.1,T.Z9D,tab 3 (by decide),?_⟩;walk_at "r";refine⟨by show 4≤sizeLine;decide,λp0 hp0=>?_⟩;have S0:=Same.new hp0 (HO.lst [.bl (i == 0),.bl (i == 1),.bl (i == 2),.bl (i == 3)]);generalize hJ0:upd H p0 (.lst [.bl (i == 0),.bl (i == 1),.bl (i == 2),.bl (i == 3)])=J0 at S0 ⊢;have hc0:J0 p0=some (.lst [.bl (i == 0),.bl (i == 1),.bl (i == 2),.bl (i == 3)]):=by rw[←hJ0];exact Z1
  clear hJ0;walk_at "r";refine⟨x,_,_,_,_,o,rfl,ZK,S0 _ _ hx,hi,XB.1,T.Z9D,tab 4 (by decide),?_⟩;walk_at "r";refine⟨x,_,_,_,_,o,rfl,ZK,S0 _ _ hx,hi,XB.1,T.Z9D,tab 5 (by decide),?_⟩;walk_at "r";refine⟨x,_,_,_,_,o,rfl,ZK,S0 _ _ hx,hi,XB.1,T.Z9D,tab 6 (by decide),?_⟩;walk_at "r";refine⟨x,_,_,_,_,o,rfl,ZK,S0 _ _ hx,hi,XB.1,T.Z9D,tab 7 (by decide),?_⟩;walk_at "r";refine⟨by show 4≤sizeLine;decide,λp1 hp1=>?_⟩;have U1:=Same.new hp1 (HO.lst [.bl (i == 4),.bl (i == 5),.bl (i == 6),.bl (i == 7)]);walk_at "r";refine⟨p0,p1,_,_,rfl,rfl,U1 _ _ hc0,Z1,ZC (by show 8≤1000;decide),λc1 hn1=>?_⟩;rw[show ([.bl (i == 0),.bl (i == 1),.bl (i == 2),.bl (i == 3)]:List V)++[.bl (i == 4),.bl (i == 5),.bl (i == 6),.bl (i == 7)]=[.bl (i == 0),.bl (i == 1),.bl (i == 2),.bl (i == 3),.bl (i == 4),.bl (i == 5),.bl (i == 6),.bl (i == 7)] from rfl];have S1:=S0.trans (U1.trans (Same.new hn1 (HO.lst [.bl (i == 0),.bl (i == 1),.bl (i == 2),.bl (i == 3),.bl (i == 4),.bl (i == 5),.bl (i == 6),.bl (i == 7)])));generalize hJ1:upd (upd J0 p1 (.lst [.bl (i == 4),.bl (i == 5),.bl (i == 6),.bl (i == 7)])) c1 (.lst [.bl (i == 0),.bl (i == 1),.bl (i == 2),.bl (i == 3),.bl (i == 4),.bl (i == 5),.bl (i == 6),.bl (i == 7)])=J1 at S1 ⊢;have hc1:J1 c1=some (.lst [.bl (i == 0),.bl (i == 1),.bl (i == 2),.bl (i == 3),.bl (i == 4),.bl (i == 5),.bl (i == 6),.bl (i == 7)]):=by rw[←hJ1];exact Z1
  clear hJ1 U1 hc0;walk_at "r";refine⟨x,_,_,_,_,o,rfl,ZK,S1 _ _ hx,hi,XB.1,T.Z9D,tab 8 (by decide),?_⟩;walk_at "r";refine⟨x,_,_,_,_,o,rfl,ZK,S1 _ _ hx,hi,XB.1,T.Z9D,tab 9 (by decide),?_⟩;walk_at "r";refine⟨x,_,_,_,_,o,rfl,ZK,S1 _ _ hx,hi,XB.1,T.Z9D,tab 10 (by decide),?_⟩;walk_at "r";refine⟨x,_,_,_,_,o,rfl,ZK,S1 _ _ hx,hi,XB.1,T.Z9D,tab 11 (by decide),?_⟩;walk_at "r";refine⟨by show 4≤sizeLine;decide,λp2 hp2=>?_⟩;have U2:=Same.new hp2 (HO.lst [.bl (i == 8),.bl (i == 9),.bl (i == 10),.bl (i == 11)]);walk_at "r";refine⟨c1,p2,_,_,rfl,rfl,U2 _ _ hc1,Z1,ZC (by show 12≤1000;decide),λc2 hn2=>?_⟩;rw[show ([.bl (i == 0),.bl (i == 1),.bl (i == 2),.bl (i == 3),.bl (i == 4),.bl (i == 5),.bl (i == 6),.bl (i == 7)]:List V)++[.bl (i == 8),.bl (i == 9),.bl (i == 10),.bl (i == 11)]=[.bl (i == 0),.bl (i == 1),.bl (i == 2),.bl (i == 3),.bl (i == 4),.bl (i == 5),.bl (i == 6),.bl (i == 7),.bl (i == 8),.bl (i == 9),.bl (i == 10),.bl (i == 11)] from rfl];have S2:=S1.trans (U2.trans (Same.new hn2 (HO.lst [.bl (i == 0),.bl (i == 1),.bl (i == 2),.bl (i == 3),.bl (i == 4),.bl (i == 5),.bl (i == 6),.bl (i == 7),.bl (i == 8),.bl (i == 9),.bl (i == 10),.bl (i == 11)])));generalize hJ2:upd (upd J1 p2 (.lst [.bl (i == 8),.bl (i == 9),.bl (i == 10),.bl (i == 11)])) c2 (.lst [.bl (i == 0),.bl (i == 1),.bl (i == 2),.bl (i == 3),.bl (i == 4),.bl (i == 5),.bl (i == 6),.bl (i == 7),.bl (i == 8),.bl (i == 9),.bl (i == 10),.bl (i == 11)])=J2 at S2 ⊢;have hc2:J2 c2=some (.lst [.bl (i == 0),.bl (i == 1),.bl (i == 2),.bl (i == 3),.bl (i == 4),.bl (i == 5),.bl (i == 6),.bl (i == 7),.bl (i == 8),.bl (i == 9),.bl (i == 10),.bl (i == 11)]):=by rw[←hJ2];exact Z1
  clear hJ2 U2 hc1;walk_at "r";refine⟨x,_,_,_,_,o,rfl,ZK,S2 _ _ hx,hi,XB.1,T.Z9D,tab 12 (by decide),?_⟩;walk_at "r";refine⟨x,_,_,_,_,o,rfl,ZK,S2 _ _ hx,hi,XB.1,T.Z9D,tab 13 (by decide),?_⟩;walk_at "r";refine⟨x,_,_,_,_,o,rfl,ZK,S2 _ _ hx,hi,XB.1,T.Z9D,tab 14 (by decide),?_⟩;walk_at "r";refine⟨x,_,_,_,_,o,rfl,ZK,S2 _ _ hx,hi,XB.1,T.Z9D,tab 15 (by decide),?_⟩;walk_at "r";refine⟨by show 4≤sizeLine;decide,λp3 hp3=>?_⟩;have U3:=Same.new hp3 (HO.lst [.bl (i == 12),.bl (i == 13),.bl (i == 14),.bl (i == 15)]);walk_at "r";refine⟨c2,p3,_,_,rfl,rfl,U3 _ _ hc2,Z1,ZC (by show 16≤1000;decide),λc3 hn3=>?_⟩;rw[show ([.bl (i == 0),.bl (i == 1),.bl (i == 2),.bl (i == 3),.bl (i == 4),.bl (i == 5),.bl (i == 6),.bl (i == 7),.bl (i == 8),.bl (i == 9),.bl (i == 10),.bl (i == 11)]:List V)++[.bl (i == 12),.bl (i == 13),.bl (i == 14),.bl (i == 15)]=[.bl (i == 0),.bl (i == 1),.bl (i == 2),.bl (i == 3),.bl (i == 4),.bl (i == 5),.bl (i == 6),.bl (i == 7),.bl (i == 8),.bl (i == 9),.bl (i == 10),.bl (i == 11),.bl (i == 12),.bl (i == 13),.bl (i == 14),.bl (i == 15)] from rfl];have S3:=S2.trans (U3.trans (Same.new hn3 (HO.lst [.bl (i == 0),.bl (i == 1),.bl (i == 2),.bl (i == 3),.bl (i == 4),.bl (i == 5),.bl (i == 6),.bl (i == 7),.bl (i == 8),.bl (i == 9),.bl (i == 10),.bl (i == 11),.bl (i == 12),.bl (i == 13),.bl (i == 14),.bl (i == 15)])));generalize hJ3:upd (upd J2 p3 (.lst [.bl (i == 12),.bl (i == 13),.bl (i == 14),.bl (i == 15)])) c3 (.lst [.bl (i == 0),.bl (i == 1),.bl (i == 2),.bl (i == 3),.bl (i == 4),.bl (i == 5),.bl (i == 6),.bl (i == 7),.bl (i == 8),.bl (i == 9),.bl (i == 10),.bl (i == 11),.bl (i == 12),.bl (i == 13),.bl (i == 14),.bl (i == 15)])=J3 at S3 ⊢;have hc3:J3 c3=some (.lst [.bl (i == 0),.bl (i == 1),.bl (i == 2),.bl (i == 3),.bl (i == 4),.bl (i == 5),.bl (i == 6),.bl (i == 7),.bl (i == 8),.bl (i == 9),.bl (i == 10),.bl (i == 11),.bl (i == 12),.bl (i == 13),.bl (i == 14),.bl (i == 15)]):=by rw[←hJ3];exact Z1
  clear hJ3 U3 hc2;walk_at "r";refine⟨x,_,_,_,_,o,rfl,ZK,S3 _ _ hx,hi,XB.1,T.Z9D,tab 16 (by decide),?_⟩;walk_at "r";refine⟨x,_,_,_,_,o,rfl,ZK,S3 _ _ hx,hi,XB.1,T.Z9D,tab 17 (by decide),?_⟩;walk_at "r";refine⟨x,_,_,_,_,o,rfl,ZK,S3 _ _ hx,hi,XB.1,T.Z9D,tab 18 (by decide),?_⟩;walk_at "r";refine⟨x,_,_,_,_,o,rfl,ZK,S3 _ _ hx,hi,XB.1,T.Z9D,tab 19 (by decide),?_⟩;walk_at "r";refine⟨by show 4≤sizeLine;decide,λp4 hp4=>?_⟩;have U4:=Same.new hp4 (HO.lst [.bl (i == 16),.bl (i == 17),.bl (i == 18),.bl (i == 19)]);walk_at "r";refine⟨c3,p4,_,_,rfl,rfl,U4 _ _ hc3,Z1,ZC (by show 20≤1000;decide),λc4 hn4=>?_⟩;rw[show ([.bl (i == 0),.bl (i == 1),.bl (i == 2),.bl (i == 3),.bl (i == 4),.bl (i == 5),.bl (i == 6),.bl (i == 7),.bl (i == 8),.bl (i == 9),.bl (i == 10),.bl (i == 11),.bl (i == 12),.bl (i == 13),.bl (i == 14),.bl (i == 15)]:List V)++[.bl (i == 16),.bl (i == 17),.bl (i == 18),.bl (i == 19)]=[.bl (i == 0),.bl (i == 1),.bl (i == 2),.bl (i == 3),.bl (i == 4),.bl (i == 5),.bl (i == 6),.bl (i == 7),.bl (i == 8),.bl (i == 9),.bl (i == 10),.bl (i == 11),.bl (i == 12),.bl (i == 13),.bl (i == 14),.bl (i == 15),.bl (i == 16),.bl (i == 17),.bl (i == 18),.bl (i == 19)] from rfl];have S4:=S3.trans (U4.trans (Same.new hn4 (HO.lst [.bl (i == 0),.bl (i == 1),.bl (i == 2),.bl (i == 3),.bl (i == 4),.bl (i == 5),.bl (i == 6),.bl (i == 7),.bl (i == 8),.bl (i == 9),.bl (i == 10),.bl (i == 11),.bl (i == 12),.bl (i == 13),.bl (i == 14),.bl (i == 15),.bl (i == 16),.bl (i == 17),.bl (i == 18),.bl (i == 19)])));generalize hJ4:upd (upd J3 p4 (.lst [.bl (i == 16),.bl (i == 17),.bl (i == 18),.bl (i == 19)])) c4 (.lst [.bl (i == 0),.bl (i == 1),.bl (i == 2),.bl (i == 3),.bl (i == 4),.bl (i == 5),.bl (i == 6),.bl (i == 7),.bl (i == 8),.bl (i == 9),.bl (i == 10),.bl (i == 11),.bl (i == 12),.bl (i == 13),.bl (i == 14),.bl (i == 15),.bl (i == 16),.bl (i == 17),.bl (i == 18),.bl (i == 19)])=J4 at S4 ⊢;have hc4:J4 c4=some (.lst [.bl (i == 0),.bl (i == 1),.bl (i == 2),.bl (i == 3),.bl (i == 4),.bl (i == 5),.bl (i == 6),.bl (i == 7),.bl (i == 8),.bl (i == 9),.bl (i == 10),.bl (i == 11),.bl (i == 12),.bl (i == 13),.bl (i == 14),.bl (i == 15),.bl (i == 16),.bl (i == 17),.bl (i == 18),.bl (i == 19)]):=by rw[←hJ4];exact Z1
  clear hJ4 U4 hc3;replace hc4:J4 c4=some (.lst ((J9 i).map V.bl)):=hc4;walk_at "r";refine⟨by show 10≤sizeLine;decide,λw1 hw1=>?_⟩;have R1:=Same.new hw1 (HO.lst [.str "BadName",.str "Taken",.str "Full",.str "NoSide",.str "NoMan",.str "BadRank",.str "Own",.str "BadTariff",.str "BadLimit",.str "BadDay"]);walk_at "r";refine⟨by show 10≤sizeLine;decide,λw2 hw2=>?_⟩;have R2:=Same.new hw2 (HO.lst [.str "NoCartel",.str "NoMen",.str "Twice",.str "Gone",.str "Held",.str "NotHeld",.str "OffRoll",.str "Uneven",.str "NoDeed",.str "Breaks"]);walk_at "r";refine⟨w1,w2,_,_,rfl,rfl,R2 _ _ Z1,Z1,ZC (by show 20≤1000;decide),λw3 hw3=>?_⟩;have R3:=Same.new hw3 (HO.lst (words.map V.str));have S5:=S4.trans (R1.trans (R2.trans R3));have hk:=R3 _ _ (R2 _ _ (R1 _ _ hc4));rw[show ([.str "BadName",.str "Taken",.str "Full",.str "NoSide",.str "NoMan",.str "BadRank",.str "Own",.str "BadTariff",.str "BadLimit",.str "BadDay"]:List V)++[.str "NoCartel",.str "NoMen",.str "Twice",.str "Gone",.str "Held",.str "NotHeld",.str "OffRoll",.str "Uneven",.str "NoDeed",.str "Breaks"]=words.map V.str from rfl];generalize hJ5:upd (upd (upd J4 w1 (.lst [.str "BadName",.str "Taken",.str "Full",.str "NoSide",.str "NoMan",.str "BadRank",.str "Own",.str "BadTariff",.str "BadLimit",.str "BadDay"])) w2 (.lst [.str "NoCartel",.str "NoMen",.str "Twice",.str "Gone",.str "Held",.str "NotHeld",.str "OffRoll",.str "Uneven",.str "NoDeed",.str "Breaks"])) w3 (.lst (words.map V.str))=J5 at S5 hk ⊢;have hw5:J5 w3=some (.lst (words.map V.str)):=by rw[←hJ5];exact Z1
  clear hJ5 R1 R2 R3;walk_at "r";refine⟨.inl ⟨rfl,_,SqL.of hk⟩,?_⟩;walk_at "r";refine⟨c4,J9 i,true,rfl,rfl,hk,?_⟩;rw[Z3m h20];walk_at "r";refine Zt (by decide) ?_;walk_at "r";refine⟨x,_,_,_,_,o,rfl,Z8t,S5 _ _ hx,hi,XB.1,T.Z9D,XB.2.2,?_⟩;walk_at "r";refine Zt (by decide) ?_;walk_at "r";refine⟨.inl ⟨rfl,_,SqL.of hk⟩,?_⟩;walk_at "r";refine⟨c4,J9 i,true,i,rfl,rfl,hk,by show 20≤1000;decide,by rw[Z2R h20];simp,λj hj=>?_,?_⟩
  ·rw[Z2R (by omega)];have:(i == j)=false:=by simp;omega
   rw[this];rfl
  ·refine Zx (SqL.of hw5) (Z5J h20) ?_;exact k J5 S5
end
theorem tell_no {A:Ad}{H:Hp}{bk pa sn dl:Addr}{g:Pg}{n i:Nat}{Q:VK}{E:XK}{day:Int}{d:Deed}(B:Book5 A H bk pa sn dl g n)(hn:n≤900)(nd:(g.men.map (·.1)).Nodup)(hm:g.men.length≤100)(due:Yt g day d=some i)(k:∀ H',Same H H'→E (.ref ((Cs A).getD i 0)) none H'):TellK A H bk pa sn dl g n day d Q E:=
 ⟨B,hn,nd,hm,λj e H' s'=>by rw[due] at e;cases e;exact k H' s',λe=>by rw[due] at e;cases e⟩
section
variable {A:Ad}{H:Hp}{bk pa sn dl:Addr}{g:Pg}{n:Nat}{Q:VK}{E:XK}{i:Nat}
theorem Z7r {z:Str}(B:Book5 A H bk pa sn dl g n)(hn:n≤900)(hs:g.sides.length≤900)(hz:z.cps.size≤1000)(due:X9 g.sides z=some i)(k:∀ H',Same H H'→E (.ref ((Cs A).getD i 0)) none H'):Z1p A [.ref bk,.str z] H Q E:=
 ⟨bk,pa,sn,dl,g,n,z,rfl,B,hn,hs,hz,λj e H' s'=>by rw[due] at e;cases e;exact k H' s',λe=>by rw[due] at e;cases e⟩
theorem Z2F {z y:Str}{r:Int}(B:Book5 A H bk pa sn dl g n)(hn:n≤900)(hm:g.men.length≤900)(hz:z.cps.size≤1000)(due:Ya g.sides g.men z y r=some i)(k:∀ H',Same H H'→E (.ref ((Cs A).getD i 0)) none H'):Z2j A [.ref bk,.str z,.str y,.int r] H Q E:=
 ⟨bk,pa,sn,dl,g,n,z,y,r,rfl,B,hn,hm,hz,λj e H' s'=>by rw[due] at e;cases e;exact k H' s',λe=>by rw[due] at e;cases e⟩
theorem Z7x {z:Str}(B:Book5 A H bk pa sn dl g n)(hn:n≤900)(hs:g.sides.length≤900)(hz:z.cps.size≤1000)(due:X9 g.sides z=none)(k:∀ (sn':Addr) (H':Hp),H sn'=none→Book5 A H' bk pa sn' dl { g with sides:=g.sides++[z] } (n + 1)→Keep2 bk pa H H'→Q .non H'):Z1p A [.ref bk,.str z] H Q E:=
 ⟨bk,pa,sn,dl,g,n,z,rfl,B,hn,hs,hz,(λj e=>by rw[due] at e;cases e),λ_=>k⟩
theorem Z8h {z y:Str}{r:Int}(B:Book5 A H bk pa sn dl g n)(hn:n≤900)(hm:g.men.length≤900)(hz:z.cps.size≤1000)(due:Ya g.sides g.men z y r=none)(k:∀ (H':Hp),Book5 A H' bk pa sn dl { g with men:=g.men++[(z,y,r)] } (n + 1)→Keep2 bk pa H H'→Q .non H'):Z2j A [.ref bk,.str z,.str y,.int r] H Q E:=
 ⟨bk,pa,sn,dl,g,n,z,y,r,rfl,B,hn,hm,hz,(λj e=>by rw[due] at e;cases e),λ_=>k⟩
end
noncomputable def Zz (g:Pg)(x0:Str)(wy:Int)(nm:Str)(day:Int):Option Nat:=if wy=0 then X9 g.sides nm else if wy=1 then Ya g.sides g.men nm x0 0 else if wy=2 then Yt g day (.take nm x0) else if wy=4 then Ya g.sides g.men nm nm 9 else if wy=5 then Ya g.sides g.men nm x0 9 else Yt g day (.word nm)
noncomputable def Z89 (A:Ad):Sp:=λvs H Q _=>∃ (bk pa sn dl:Addr) (g:Pg) (n i:Nat) (x0 nm:Str) (wy day:Int),vs=[.ref bk,.int wy,.str nm,.int day]∧Book5 A H bk pa sn dl g n∧n≤900∧g.sides.length < 64∧(Yg g.sides)[0]? = some x0∧(g.men.map (·.1)).Nodup∧g.men.length≤100∧nm.cps.size≤1000∧Zz g x0 wy nm day=some i∧i < 20∧∀ H',Same H H'→Q (.str (words.getD i "")) H'
section
variable {P:Program}{w:World}{K:W.Frag}{mg:Str→Option Value}{base:Heap}{A:Ad}
theorem Xu (T:Txt K mg A){i:Nat}(h:i < 20):Z28 K ((Cs A).getD i 0)∧W.mroIn K ((Cs A).getD i 0) (.ref A.Z92)=some true:=by
 match i,h with
 | 0,_=>exact⟨ZB T.Zdw,T.ZgP⟩
 | 1,_=>exact⟨ZB T.ZeK,T.ZgJ⟩
 | 2,_=>exact⟨ZB T.Zff,T.ZgQ⟩
 | 3,_=>exact⟨ZB T.Zef,T.ZgG⟩
 | 4,_=>exact⟨ZB T.ZeQ,T.ZgH⟩
 | 5,_=>exact⟨ZB T.Zdk,T.ZgK⟩
 | 6,_=>exact⟨ZB T.Zgz,T.ZgM⟩
 | 7,_=>exact⟨ZB T.Zec,T.ZgL⟩
 | 8,_=>exact⟨ZB T.ZeD,T.ZgO⟩
 | 9,_=>exact⟨ZB T.Zei,T.ZgN⟩
 | 10,_=>exact⟨ZB T.ZeC,T.ZgA⟩
 | 11,_=>exact⟨ZB T.ZfR,T.Zgq⟩
 | 12,_=>exact⟨ZB T.ZfU,T.ZgB⟩
 | 13,_=>exact⟨ZB T.Zgm,T.ZgE⟩
 | 14,_=>exact⟨ZB T.Zgh,T.Zgp⟩
 | 15,_=>exact⟨ZB T.Zf1,T.Zgv⟩
 | 16,_=>exact⟨ZB T.Zf4,T.ZgF⟩
 | 17,_=>exact⟨ZB T.Zft,T.ZgD⟩
 | 18,_=>exact⟨ZB T.Zfn,T.Zgt⟩
 | 19,_=>exact⟨T.Zfv.cls,T.Zgr⟩
 | n + 20,h=>exact absurd h (by omega)
theorem Z5F (T:Txt K mg A)(TD:DictF w K A.Z9e (ZI A)):FnOk P w K mg base CX0 10 A.ZeW A.Zeo ["_law_book","_law_way","_law_name","_law_day"] (Z89 A):=by
 have Zfw:=@JO P w K mg base A T;have ZcL:=@Z06 P w K mg base A T;have Zfy:=@Z04 P w K mg base A T TD;have Zfx:=@Z0h P w K mg base A T TD;have Za3:=@Jv P w K mg base A T;have Zge:FnOkM P w K mg base 1 A.Zc5 A.Zbt ["_law_e"] (Z2H A):=Z3f T;refine T.ZdL.ok Zd1 (λvs H Q E h=>?_) (λcdv A' outer s H vs Q E hr h=>?_)
 ·obtain⟨bk,pa,sn,dl,g,n,i,x0,nm,wy,day,rfl,_⟩:=h;rfl
 ·obtain⟨bk,pa,sn,dl,g,n,i,x0,nm,wy,day,rfl,B,hn,hs,hx,nd,h100,hz,due,hi,k⟩:=h;obtain⟨dx,pg,fu,ps,h1,h2,h3,h4,h5,h6⟩:=id B;unfold Zz at due;refine⟨_,(Z8 (Zi (i:=4) Zd1.nd rfl (Or.inl rfl) Zb)
   (Z8 (Z74 (i:=5) rfl rfl (Ye (Z00 (Zm Yz (pv 1) Z5 (Zs _)) (Ye (Xp (pv 0) T.Z94 ⟨T.Zck,T.ZbC,T.ZaZ.kp⟩ Zfw (hr.mono (by decide)) T.ZcJ (Z0 (pv 2) Z4))) (Ye (Z00 (Zm Yz (pv 1) Z5 (Zs _)) (Ye (Xp (pv 0) T.Z94 ⟨T.ZaE,T.Zae,T.Za6.kp⟩ ZcL (hr.mono (by decide)) T.Zau (Z0 (pv 2) (Z0 (Zj (ixL (K:=K) rfl) (Xd (pv 0) T.Z94 ⟨T.Za2,T.Z9U,T.Z9P.kp⟩ Za3 (hr.mono (by decide)) T.Za4 .nil Zg) Z5 (λ_ _=>rfl)) (Z0 Z5 Z4))))) (Ye (Z00 (Zm Yz (pv 1) Z5 (Zs _)) (Ye (Xp (pv 0) T.Z94 ⟨T.ZaX,T.Zaz,T.Zad.kp⟩ Zfy (hr.mono (by decide)) T.Zb3 (Z0 (pv 3) (Z0 (pv 2) (Z0 (Zj (ixL (K:=K) rfl) (Xd (pv 0) T.Z94 ⟨T.Za2,T.Z9U,T.Z9P.kp⟩ Za3 (hr.mono (by decide)) T.Za4 .nil Zg) Z5 (λ_ _=>rfl)) Z4))))) (Ye (Z00 (Zm Yz (pv 1) Z5 (Zs _)) (Ye (Xp (pv 0) T.Z94 ⟨T.ZaE,T.Zae,T.Za6.kp⟩ ZcL (hr.mono (by decide)) T.Zau (Z0 (pv 2) (Z0 (pv 2) (Z0 Z5 Z4))))) (Ye (Z00 (Zm Yz (pv 1) Z5 (Zs _)) (Ye (Xp (pv 0) T.Z94 ⟨T.ZaE,T.Zae,T.Za6.kp⟩ ZcL (hr.mono (by decide)) T.Zau (Z0 (pv 2) (Z0 (Zj (ixL (K:=K) rfl) (Xd (pv 0) T.Z94 ⟨T.Za2,T.Z9U,T.Z9P.kp⟩ Za3 (hr.mono (by decide)) T.Za4 .nil Zg) Z5 (λ_ _=>rfl)) (Z0 Z5 Z4))))) (Ye (Xp (pv 0) T.Z94 ⟨T.ZcB,T.ZbY,T.Zb4.kp⟩ Zfx (hr.mono (by decide)) T.ZcA (Z0 (pv 3) (Z0 (pv 2) Z4)))))))))))))) Zd1.nd rfl rfl rfl T.Zda T.Zde (λ_=>(Z7 (Zi (i:=4) Zd1.nd rfl (Or.inl rfl) (Z60 Zge (hr.mono (by decide)) rfl T.ZeZ T.Zdq.kp T.Zf5 (Z0 (pv 5) Z4))))))
   (Z7 (Zo (pv 4))))),?_⟩
  walk_at "r";unfold Z6t Z7M Z3u;walk_at "r"
  by_cases w0:wy=0
  ·refine Y1 (decide_eq_true w0) ?_;rw[if_pos w0] at due;walk_at "r";refine⟨bk,dx,_,rfl,h1,rfl,?_⟩;walk_at "r";refine Z7r B hn (by omega) hz due λH2 s2=>?_;obtain⟨c1,c2⟩:=Xu T hi;refine⟨_,rfl,c1,c2,λe he=>?_⟩;have sx:=Same.new he (XU e ((Cs A).getD i 0));walk_at "r";refine⟨e,_,i,rfl,Z1,Z0p,hi,λH3 s3=>?_⟩;dsimp only[Jq];walk_at "r";exact k _ ((s2.trans (sx.trans s3)))
  rw[if_neg w0] at due;refine Zt (λz=>w0 (of_decide_eq_true z)) ?_;walk_at "r"
  by_cases w1:wy=1
  ·refine Y1 (decide_eq_true w1) ?_;rw[if_pos w1] at due;walk_at "r";refine⟨bk,dx,_,rfl,h1,rfl,?_⟩;walk_at "r";refine⟨bk,dx,_,rfl,h1,rfl,?_⟩;refine⟨bk,pa,sn,dl,g,n,rfl,B,hs,λp hp=>?_⟩;have sp:=Same.new hp (HO.lst ((Yg g.sides).map V.str));walk_at "r";refine Zx (SqL.of Z1) (v:=.str x0) (ZG (j:=0) (by rw[List.getElem?_map,hx];rfl)) ?_;walk_at "r";refine Z2F (B.same sp) hn (by omega) hz due λH2 s2=>?_;obtain⟨c1,c2⟩:=Xu T hi;refine⟨_,rfl,c1,c2,λe he=>?_⟩;have sx:=Same.new he (XU e ((Cs A).getD i 0));walk_at "r";refine⟨e,_,i,rfl,Z1,Z0p,hi,λH3 s3=>?_⟩;dsimp only[Jq];walk_at "r";exact k _ (sp.trans (s2.trans (sx.trans s3)))
  rw[if_neg w1] at due;refine Zt (λz=>w1 (of_decide_eq_true z)) ?_;walk_at "r"
  by_cases w2:wy=2
  ·refine Y1 (decide_eq_true w2) ?_;rw[if_pos w2] at due;walk_at "r";refine⟨bk,dx,_,rfl,h1,rfl,?_⟩;walk_at "r";refine⟨bk,dx,_,rfl,h1,rfl,?_⟩;refine⟨bk,pa,sn,dl,g,n,rfl,B,hs,λp hp=>?_⟩;have sp:=Same.new hp (HO.lst ((Yg g.sides).map V.str));walk_at "r";refine Zx (SqL.of Z1) (v:=.str x0) (ZG (j:=0) (by rw[List.getElem?_map,hx];rfl)) ?_;walk_at "r";refine⟨bk,pa,sn,dl,g,n,day,nm,x0,rfl,tell_no (B.same sp) hn nd h100 due λH2 s2=>?_⟩;obtain⟨c1,c2⟩:=Xu T hi;refine⟨_,rfl,c1,c2,λe he=>?_⟩;have sx:=Same.new he (XU e ((Cs A).getD i 0));walk_at "r";refine⟨e,_,i,rfl,Z1,Z0p,hi,λH3 s3=>?_⟩;dsimp only[Jq];walk_at "r";exact k _ (sp.trans (s2.trans (sx.trans s3)))
  rw[if_neg w2] at due;refine Zt (λz=>w2 (of_decide_eq_true z)) ?_;walk_at "r"
  by_cases w4:wy=4
  ·refine Y1 (decide_eq_true w4) ?_;rw[if_pos w4] at due;walk_at "r";refine⟨bk,dx,_,rfl,h1,rfl,?_⟩;walk_at "r";refine Z2F B hn (by omega) hz due λH2 s2=>?_;obtain⟨c1,c2⟩:=Xu T hi;refine⟨_,rfl,c1,c2,λe he=>?_⟩;have sx:=Same.new he (XU e ((Cs A).getD i 0));walk_at "r";refine⟨e,_,i,rfl,Z1,Z0p,hi,λH3 s3=>?_⟩;dsimp only[Jq];walk_at "r";exact k _ ((s2.trans (sx.trans s3)))
  rw[if_neg w4] at due;refine Zt (λz=>w4 (of_decide_eq_true z)) ?_;walk_at "r"
  by_cases w5:wy=5
  ·refine Y1 (decide_eq_true w5) ?_;rw[if_pos w5] at due;walk_at "r";refine⟨bk,dx,_,rfl,h1,rfl,?_⟩;walk_at "r";refine⟨bk,dx,_,rfl,h1,rfl,?_⟩;refine⟨bk,pa,sn,dl,g,n,rfl,B,hs,λp hp=>?_⟩;have sp:=Same.new hp (HO.lst ((Yg g.sides).map V.str));walk_at "r";refine Zx (SqL.of Z1) (v:=.str x0) (ZG (j:=0) (by rw[List.getElem?_map,hx];rfl)) ?_;walk_at "r";refine Z2F (B.same sp) hn (by omega) hz due λH2 s2=>?_;obtain⟨c1,c2⟩:=Xu T hi;refine⟨_,rfl,c1,c2,λe he=>?_⟩;have sx:=Same.new he (XU e ((Cs A).getD i 0));walk_at "r";refine⟨e,_,i,rfl,Z1,Z0p,hi,λH3 s3=>?_⟩;dsimp only[Jq];walk_at "r";exact k _ (sp.trans (s2.trans (sx.trans s3)))
  ·rw[if_neg w5] at due;refine Zt (λz=>w5 (of_decide_eq_true z)) ?_;walk_at "r";refine⟨bk,dx,_,rfl,h1,rfl,?_⟩;walk_at "r";refine⟨bk,pa,sn,dl,g,n,day,nm,rfl,tell_no B hn nd h100 due λH2 s2=>?_⟩;obtain⟨c1,c2⟩:=Xu T hi;refine⟨_,rfl,c1,c2,λe he=>?_⟩;have sx:=Same.new he (XU e ((Cs A).getD i 0));walk_at "r";refine⟨e,_,i,rfl,Z1,Z0p,hi,λH3 s3=>?_⟩;dsimp only[Jq];walk_at "r";exact k _ ((s2.trans (sx.trans s3)))
end
noncomputable def kindOf (nm s:Str):Nat→Deed
 | 0=>.take nm s
 | 1=>.word nm
 | 2=>.take nm s
 | _=>.flee nm
noncomputable def JS:Nat→Int
 | 0=>0
 | 1=>30
 | 2=>60
 | _=>99
noncomputable def Z0J:Nat→Int
 | 0=>30
 | 1=>60
 | 2=>90
 | _=>100
noncomputable def Z18 (i:Nat):Nat→Int
 | 0=>2 * (i:Int) + 1
 | 1=>2 * (i:Int) + 2
 | 2=>81 + (i:Int)
 | _=>121
theorem JA {nm s:Str}{k:Nat}:ZQ (kindOf nm s k)=nm:=by
 match k with
 | 0=>rfl
 | 1=>rfl
 | 2=>rfl
 | _ + 3=>rfl
theorem Z8w {j k:Nat}(h:j < k)(h4:k < 4):Z0J j≤JS k:=by
 have:∀ j k:Fin 4,j.val < k.val→Z0J j.val≤JS k.val:=by decide
 exact this ⟨j,by omega⟩ ⟨k,h4⟩ h
structure Pat (b:Int)(i:Nat)(nm s:Str)(k:Nat)(l:List Ent):Prop where
 len:l.length=k
 le:k≤4
 at':∀ j e,l[j]? = some e→e.2.2=kindOf nm s j∧b + JS j≤e.2.1∧e.2.1 < b + Z0J j∧e.1=Z18 i j
theorem Pat.nil {b:Int}{i:Nat}{nm s:Str}:Pat b i nm s 0 []:=⟨rfl,by omega,λj e h=>by simp at h⟩
theorem Pat.snoc {b:Int}{i k:Nat}{nm s:Str}{l:List Ent}{e:Ent}(h:Pat b i nm s k l)(h4:k < 4)(e1:e.2.2=kindOf nm s k)(e2:b + JS k≤e.2.1)(e3:e.2.1 < b + Z0J k)(e4:e.1=Z18 i k):Pat b i nm s (k + 1) (l++[e]):=by
 refine⟨by simp[h.len],by omega,λj e' hj=>?_⟩
 by_cases q:j < l.length
 ·rw[List.getElem?_append_left q] at hj;exact h.at' j e' hj
 ·have:j=k:=by
   have:=(List.getElem?_eq_some_iff.mp hj).1;simp[h.len] at this;have:=h.len;omega
  subst this;rw[List.getElem?_append_right (by have:=h.len;omega),h.len,Nat.sub_self] at hj;obtain rfl:e=e':=by simpa using hj
  exact⟨e1,e2,e3,e4⟩
theorem Pat.init {b:Int}{i k:Nat}{nm s:Str}{l:List Ent}(h:Pat b i nm s (k + 1) l):Pat b i nm s k (l.take k):=by
 refine⟨by rw[List.length_take,h.len];omega,by have:=h.le;omega,λj e hj=>?_⟩;rw[List.getElem?_take] at hj
 split at hj
 ·exact h.at' j e hj
 ·cases hj
theorem Pat.day {b:Int}{i k:Nat}{nm s:Str}{l:List Ent}(h:Pat b i nm s k l)(h4:k < 4){e:Ent}(he:e∈l):e.2.1 < b + JS k:=by
 obtain⟨j,hj⟩:=List.mem_iff_getElem?.mp he;have lj:j < k:=by rw[←h.len];exact (List.getElem?_eq_some_iff.mp hj).1
 obtain⟨_,_,a,_⟩:=h.at' j e hj;have:=Z8w lj h4;omega
theorem YN {b:Int}{i k j:Nat}{nm s:Str}{l:List Ent}(h:Pat b i nm s k l)(hj:j < k):∃ n d,l[j]? = some (n,d,kindOf nm s j):=by
 have lj:j < l.length:=by rw[h.len];exact hj
 obtain⟨e,he⟩:∃ e,l[j]? = some e:=⟨l[j],List.getElem?_eq_getElem lj⟩;obtain⟨n,d,dd⟩:=e;obtain⟨a,_⟩:=h.at' j _ he;exact⟨n,d,by rw[he];dsimp only at a;rw[a]⟩
theorem Z7y {b:Int}{i k:Nat}{nm s hm:Str}{r:Int}{l:List Ent}(h:Pat b i nm s k l)(ne:hm≠s)(ns:s≠""):∃ m2,RunM nm ⟨hm,r,false,none⟩ l m2:=by
 have hl:=h.len;have hk:=h.le
 match l,hl with
 | [],_=>exact⟨_,.nil⟩
 | [x],hl=>
   obtain⟨n0,d0,e0⟩:=YN (j:=0) h (by simp at hl;omega);obtain rfl:x=_:=by simpa using e0
   exact⟨_,.cons rfl rfl (.take ne rfl (.inl rfl)) .nil⟩
 | [x,y],hl=>
   obtain⟨n0,d0,e0⟩:=YN (j:=0) h (by simp at hl;omega);obtain⟨n1,d1,e1⟩:=YN (j:=1) h (by simp at hl;omega);obtain rfl:x=_:=by simpa using e0
   obtain rfl:y=_:=by simpa using e1
   exact⟨_,.cons rfl rfl (.take ne rfl (.inl rfl)) (.cons rfl rfl (.word rfl ns) .nil)⟩
 | [x,y,z],hl=>
   obtain⟨n0,d0,e0⟩:=YN (j:=0) h (by simp at hl;omega);obtain⟨n1,d1,e1⟩:=YN (j:=1) h (by simp at hl;omega);obtain⟨n2,d2,e2⟩:=YN (j:=2) h (by simp at hl;omega);obtain rfl:x=_:=by simpa using e0
   obtain rfl:y=_:=by simpa using e1
   obtain rfl:z=_:=by simpa using e2
   exact⟨_,.cons rfl rfl (.take ne rfl (.inl rfl)) (.cons rfl rfl (.word rfl ns) (.cons rfl rfl (.take ne rfl (.inr ⟨_,rfl⟩)) .nil))⟩
 | [x,y,z,u],hl=>
   obtain⟨n0,d0,e0⟩:=YN (j:=0) h (by simp at hl;omega);obtain⟨n1,d1,e1⟩:=YN (j:=1) h (by simp at hl;omega);obtain⟨n2,d2,e2⟩:=YN (j:=2) h (by simp at hl;omega);obtain⟨n3,d3,e3⟩:=YN (j:=3) h (by simp at hl;omega);obtain rfl:x=_:=by simpa using e0
   obtain rfl:y=_:=by simpa using e1
   obtain rfl:z=_:=by simpa using e2
   obtain rfl:u=_:=by simpa using e3
   exact⟨_,.cons rfl rfl (.take ne rfl (.inl rfl)) (.cons rfl rfl (.word rfl ns) (.cons rfl rfl (.take ne rfl (.inr ⟨_,rfl⟩)) (.cons rfl rfl (.flee rfl ns) .nil)))⟩
 | _::_::_::_::_::_,hl=>simp at hl;omega
structure Bk (b:Int)(zs ms:List Str)(st:Nat→Nat)(D:List Ent)(nx:Int):Prop where
 srt:D.Pairwise DLt
 num:∀ d∈D,d.1 < nx
 nod:(D.map (·.1)).Nodup
 who:∀ d∈D,ZQ d.2.2∈ms
 pat:∀ i nm s,ms[i]? = some nm→zs[(i + 1) % 6]? = some s→Pat b i nm s (st i) (D.filter λd=>decide (ZQ d.2.2=nm))
theorem Bk.nil {b:Int}{zs ms:List Str}:Bk b zs ms (λ_=>0) [] 1:=⟨.nil,λd h=>(by simp at h),by simp,λd h=>(by simp at h),λi nm s _ _=>Pat.nil⟩
theorem Z5a (c:Int):∀ {D:List Ent},D.Pairwise DLt→∃ us ts,D=us++ts∧(∀ x∈us,x.2.1≤c)∧∀ x∈ts,c < x.2.1
 | [],_=>⟨[],[],rfl,λx h=>(by simp at h),λx h=>(by simp at h)⟩
 | a::r,h=>by
   obtain⟨h1,h2⟩:=List.pairwise_cons.mp h
   by_cases q:a.2.1≤c
   ·obtain⟨us,ts,e,l,g⟩:=Z5a c h2;refine⟨a::us,ts,by rw[e];rfl,λx hx=>?_,g⟩
    rcases List.mem_cons.mp hx with rfl|hx
    ·exact q
    ·exact l x hx
   ·refine⟨[],a::r,rfl,λx hx=>(by simp at hx),λx hx=>?_⟩
    rcases List.mem_cons.mp hx with rfl|hx
    ·omega
    ·rcases h1 x hx with z|⟨z,_⟩<;>omega
noncomputable def Yu (st:Nat→Nat)(i k:Nat):Nat→Nat:=λj=>if j=i then k else st j
theorem Bk.tell {b nx day:Int}{zs ms:List Str}{st:Nat→Nat}{D:List Ent}{i:Nat}{nm s:Str}{d:Deed}(h:Bk b zs ms st D nx)(ndm:ms.Nodup)(hi:ms[i]? = some nm)(hs:zs[(i + 1) % 6]? = some s)(h4:st i < 4)(hd:d=kindOf nm s (st i))(d1:b + JS (st i)≤day)(d2:day < b + Z0J (st i))(hn:nx=Z18 i (st i))(few:D.length < 127) :
 ∃ us ts,D=us++ts∧SplD us ts (nx,day,d)∧Bk b zs ms (Yu st i (st i + 1)) (us++(nx,day,d)::ts) (nx + 1):=by
 obtain⟨us,ts,e,l,g⟩:=Z5a day h.srt;have lo:∀ x∈us,DLt x (nx,day,d):=λx hx=>by
  have a:=l x hx;have c:=h.num x (by rw[e];exact List.mem_append_left _ hx);unfold DLt;dsimp only;omega
 have hi':∀ x∈ts,DLt (nx,day,d) x:=λx hx=>by
  have a:=g x hx;unfold DLt;dsimp only;omega
 have srt':=h.srt;rw[e] at srt';refine⟨us,ts,e,⟨srt',lo,hi',by have:=congrArg List.length e;simp at this;omega⟩,?_,?_,?_,?_,?_⟩
 ·obtain⟨p1,p2,p3⟩:=List.pairwise_append.mp srt';refine List.pairwise_append.mpr ⟨p1,List.pairwise_cons.mpr ⟨hi',p2⟩,λx hx y hy=>?_⟩
  rcases List.mem_cons.mp hy with rfl|hy
  ·exact lo x hx
  ·exact p3 x hx y hy
 ·intro x hx
  rcases List.mem_append.mp hx with hx|hx
  ·have:=h.num x (by rw[e];exact List.mem_append_left _ hx);omega
  ·rcases List.mem_cons.mp hx with rfl|hx
   ·show nx < nx + 1;omega
   ·have:=h.num x (by rw[e];exact List.mem_append_right _ hx);omega
 ·have nd:=h.nod;rw[e,List.map_append] at nd;rw[List.map_append,List.map_cons];obtain⟨n1,n2,n3⟩:=List.nodup_append.mp nd;have out:∀ x∈D,x.1≠nx:=λx hx=>by have:=h.num x hx;omega
  refine List.nodup_append.mpr ⟨n1,List.nodup_cons.mpr ⟨λz=>?_,n2⟩,λa ha c hc=>?_⟩
  ·obtain⟨x,hx,ex⟩:=List.mem_map.mp z;exact out x (by rw[e];exact List.mem_append_right _ hx) ex
  ·rcases List.mem_cons.mp hc with rfl|hc
   ·obtain⟨x,hx,ex⟩:=List.mem_map.mp ha;rw[←ex];exact out x (by rw[e];exact List.mem_append_left _ hx)
   ·exact n3 a ha c hc
 ·intro x hx
  rcases List.mem_append.mp hx with hx|hx
  ·exact h.who x (by rw[e];exact List.mem_append_left _ hx)
  ·rcases List.mem_cons.mp hx with rfl|hx
   ·show ZQ d∈ms;rw[hd,JA];exact List.mem_of_getElem? hi
   ·exact h.who x (by rw[e];exact List.mem_append_right _ hx)
 ·intro j nm2 s2 hj hs2;have old:=h.pat j nm2 s2 hj hs2;rw[e,List.filter_append] at old;rw[List.filter_append]
  by_cases ij:j=i
  ·subst ij;rw[hi] at hj;rw[hs] at hs2;cases hj;cases hs2;have q:(Yu st j (st j + 1)) j=st j + 1:=by unfold Yu;rw[if_pos rfl]
   rw[q];have tnil:ts.filter (λd=>decide (ZQ d.2.2=nm))=[]:=by
    refine List.filter_eq_nil_iff.mpr λx hx z=>?_;have a:=g x hx;have c:=old.day h4 (e:=x) (List.mem_append_right _ (List.mem_filter.mpr ⟨hx,z⟩));omega
   rw[tnil,List.append_nil] at old;rw[List.filter_cons_of_pos (by show decide (ZQ d=nm)=true;rw[hd,JA];simp),tnil];exact old.snoc h4 hd d1 d2 hn
  ·have q:(Yu st i (st i + 1)) j=st j:=by unfold Yu;rw[if_neg ij]
   rw[q];have nn:¬ ZQ d=nm2:=λz=>by
    rw[hd,JA] at z;rw[z] at hi;exact ij (YZ ndm hj hi)
   rw[List.filter_cons_of_neg (by simpa using nn)];exact old
theorem Bk.run {b nx:Int}{zs ms:List Str}{st:Nat→Nat}{D:List Ent}{men:List Mn}(h:Bk b zs ms st D nx)(ln:ms.length=men.length)(hm:∀ i nm,ms[i]? = some nm→∃ (hm:Str) (r:Int) (s:Str),men[i]? = some (nm,hm,r)∧zs[(i + 1) % 6]? = some s∧hm≠s∧s≠""):RunG (men.map ZV) D:=by
 refine⟨λd hd=>?_,λnm m hmm=>?_⟩
 ·obtain⟨i,hi⟩:=List.mem_iff_getElem?.mp (h.who d hd);obtain⟨hm',r,s,e1,_⟩:=hm i _ hi;exact⟨_,List.mem_map.mpr ⟨_,List.mem_of_getElem? e1,rfl⟩⟩
 ·obtain⟨⟨a,c,r⟩,hx,ex⟩:=List.mem_map.mp hmm;obtain⟨i,hi⟩:=List.mem_iff_getElem?.mp hx;have li:i < ms.length:=by rw[ln];exact (List.getElem?_eq_some_iff.mp hi).1
  obtain⟨hm',r',s,e1,e2,e3,e4⟩:=hm i ms[i] (List.getElem?_eq_getElem li);rw[hi] at e1;obtain⟨rfl,rfl,rfl⟩:a=ms[i]∧c=hm'∧r=r':=by simpa using e1
  obtain⟨rfl,rfl⟩:ms[i]=nm∧(⟨c,r,false,none⟩:Ms)=m:=by
   have:=ex;unfold ZV at this;exact⟨congrArg Prod.fst this,congrArg Prod.snd this⟩
  exact Z7y (h.pat i _ s (List.getElem?_eq_getElem li) e2) e3 e4
theorem Z0X {n:Int}:∀ {D:List Ent},(D.map (·.1)).Nodup→n∈D.map (·.1)→(D.filter λd=>!decide (d.1=n)).length + 1=D.length
 | [],_,h=>by simp at h
 | a::r,nd,h=>by
   obtain⟨n1,n2⟩:=List.nodup_cons.mp nd
   by_cases q:a.1=n
   ·rw[List.filter_cons_of_neg (by simp[q])];have:r.filter (λd=>!decide (d.1=n))=r:=List.filter_eq_self.mpr λx hx=>by
     have:¬ x.1=n:=λz=>n1 (List.mem_map.mpr ⟨x,hx,by dsimp only;rw[z,q]⟩);simp[this]
    rw[this];rfl
   ·rw[List.filter_cons_of_pos (by simp[q]),List.length_cons,List.length_cons];have h2:n∈r.map (·.1):=by
     rcases List.mem_cons.mp (show n∈a.1::r.map (·.1) from h) with z|z
     ·exact absurd z.symm q
     ·exact z
    rw[Z0X n2 h2]
theorem Z7F {i j t:Nat}(hj:j < 3)(hi:i < 40)(ht:t < 40)(h:Z18 i j=81 + (t:Int)):j=2∧i=t:=by
 match j,hj with
 | 0,_=>have h':2 * (i:Int) + 1=81 + (t:Int):=h;omega
 | 1,_=>have h':2 * (i:Int) + 2=81 + (t:Int):=h;omega
 | 2,_=>have h':81 + (i:Int)=81 + (t:Int):=h;omega
theorem Bk.strike {b nx:Int}{zs ms:List Str}{st:Nat→Nat}{D:List Ent}{t:Nat}{nm s:Str}(h:Bk b zs ms st D nx)(l40:ms.length=40)(ht:t < 40)(hst:∀ i,i < 40→st i=3)(hm:ms[t]? = some nm)(hs:zs[(t + 1) % 6]? = some s) :
 (81 + (t:Int))∈D.map (·.1)∧Bk b zs ms (Yu st t 2) (D.filter λd=>!decide (d.1=81 + (t:Int))) nx:=by
 have sub:∀ x∈D.filter (λd=>!decide (d.1=81 + (t:Int))),x∈D:=λx hx=>(List.mem_filter.mp hx).1;refine⟨?_,List.Pairwise.filter _ h.srt,λx hx=>h.num x (sub x hx),?_,λx hx=>h.who x (sub x hx),?_⟩
 ·have p:=h.pat t nm s hm hs;rw[hst t ht] at p;have l2:2 < (D.filter λd=>decide (ZQ d.2.2=nm)).length:=by rw[p.len];omega
  obtain⟨_,_,_,a⟩:=p.at' 2 _ (List.getElem?_eq_getElem l2);exact List.mem_map.mpr ⟨_,(List.mem_filter.mp (List.getElem_mem l2)).1,a⟩
 ·exact List.Nodup.sublist (List.Sublist.map _ List.filter_sublist) h.nod
 ·intro i nm2 s2 hi hs2;have li:i < 40:=by rw[←l40];exact (List.getElem?_eq_some_iff.mp hi).1
  have p:=h.pat i nm2 s2 hi hs2;rw[hst i li] at p;have com:(D.filter λd=>!decide (d.1=81 + (t:Int))).filter (λd=>decide (ZQ d.2.2=nm2))=(D.filter λd=>decide (ZQ d.2.2=nm2)).filter λd=>!decide (d.1=81 + (t:Int)):=by
   rw[List.filter_filter,List.filter_filter];exact List.filter_congr λx _=>Bool.and_comm _ _
  rw[com];generalize D.filter (λd=>decide (ZQ d.2.2=nm2))=l at p
  by_cases it:i=t
  ·subst it;have q:(Yu st i 2) i=2:=by unfold Yu;rw[if_pos rfl]
   rw[q];have e:l.filter (λd=>!decide (d.1=81 + (i:Int)))=l.take 2:=by
    match l,p.len with
    | [x,y,z],_=>
      have a:x.1=2 * (i:Int) + 1:=(p.at' 0 x rfl).2.2.2;have c:y.1=2 * (i:Int) + 2:=(p.at' 1 y rfl).2.2.2;have d:z.1=81 + (i:Int):=(p.at' 2 z rfl).2.2.2;have a':¬ x.1=81 + (i:Int):=by omega
      have c':¬ y.1=81 + (i:Int):=by omega
      simp[a',c',d]
   rw[e];exact p.init
  ·have q:(Yu st t 2) i=3:=by unfold Yu;rw[if_neg it];exact hst i li
   rw[q];have e:l.filter (λd=>!decide (d.1=81 + (t:Int)))=l:=List.filter_eq_self.mpr λx hx=>by
    obtain⟨j,hj⟩:=List.mem_iff_getElem?.mp hx;have lj:j < 3:=by rw[←p.len];exact (List.getElem?_eq_some_iff.mp hj).1
    have a:=(p.at' j x hj).2.2.2;have:¬ x.1=81 + (t:Int):=λz=>it (Z7F lj li ht (a.symm.trans z)).2;simp[this]
   rw[e];exact p
theorem BoxAt.ne_strs {H:Hp}{b l al:Addr}{ns:List Int}{zs:List Str}(h:BoxAt H b l ns)(e:H al=some (.lst (zs.map V.str))):al≠b:=by
 obtain⟨i,left,turn,seed,h1,_⟩:=h;refine Zk e h1 λq=>?_;injection q with q
 cases zs with
 | nil=>simp at q
 | cons z zs=>simp at q
theorem BoxAt.ne_refs {H:Hp}{b l al:Addr}{ns:List Int}{ps:List Addr}(h:BoxAt H b l ns)(e:H al=some (.lst (ps.map V.ref))):al≠b:=by
 obtain⟨i,left,turn,seed,h1,_⟩:=h;refine Zk e h1 λq=>?_;injection q with q
 cases ps with
 | nil=>simp at q
 | cons p ps=>cases ps with
   | nil=>simp at q
   | cons p' ps=>simp at q
theorem Book5.keepb {A:Ad}{H H':Hp}{b l bk pa sn dl:Addr}{ns:List Int}{g:Pg}{n:Nat}(h:Book5 A H bk pa sn dl g n)(B:BoxAt H b l ns)(k:Keep b H H'):Book5 A H' bk pa sn dl g n:=by
 obtain⟨dx,pg,fu,ps,h1,h2,h3,PA,h5⟩:=id h;obtain⟨es,q1,_⟩:=PA.hd;have n1:=B.ne_refs h2;have n2:=B.ne_strs PA.hs;have n3:=B.ne_refs q1;obtain⟨i,left,turn,seed,hb,_⟩:=B;exact h.keep hb n1 n2 n3 k
structure Wk (A:Ad)(H0 H:Hp)(b l tw mn bk pa sn dl:Addr)(ns:List Int)(zs ms:List Str)(g:Pg)(n:Nat):Prop where
 same:Same H0 H
 box:BoxAt H b l ns
 ht:H tw=some (.lst (zs.map V.str))
 hm:H mn=some (.lst (ms.map V.str))
 book:Book5 A H bk pa sn dl g n
 fb:H0 b=none
 fk:H0 bk=none
 fp:H0 pa=none
 nl:l≠pa
 nt:tw≠pa
 nm:mn≠pa
theorem Wk.more {A:Ad}{H0 H H':Hp}{b l tw mn bk pa sn dl:Addr}{ns:List Int}{zs ms:List Str}{g:Pg}{n:Nat}(W:Wk A H0 H b l tw mn bk pa sn dl ns zs ms g n)(s:Same H H'):Wk A H0 H' b l tw mn bk pa sn dl ns zs ms g n:=by
 obtain⟨i,left,turn,seed,h1,h2,h3⟩:=W.box;exact⟨W.same.trans s,⟨i,left,turn,seed,s _ _ h1,s _ _ h2,h3⟩,s _ _ W.ht,s _ _ W.hm,W.book.same s,W.fb,W.fk,W.fp,W.nl,W.nt,W.nm⟩
theorem Wk.take {A:Ad}{H0 H H':Hp}{b l tw mn bk pa sn dl:Addr}{ns:List Int}{zs ms:List Str}{g:Pg}{n:Nat}(W:Wk A H0 H b l tw mn bk pa sn dl ns zs ms g n)(B:BoxAt H' b l ns)(k:Keep b H H'):Wk A H0 H' b l tw mn bk pa sn dl ns zs ms g n:=
 ⟨JT W.same k W.fb,B,k _ _ W.ht (W.box.ne_strs W.ht),k _ _ W.hm (W.box.ne_strs W.hm),W.book.keepb W.box k,W.fb,W.fk,W.fp,W.nl,W.nt,W.nm⟩
theorem Wk.step {A:Ad}{H0 H H':Hp}{b l tw mn bk pa sn dl sn' dl':Addr}{ns:List Int}{zs ms:List Str}{g g':Pg}{n n':Nat}(W:Wk A H0 H b l tw mn bk pa sn dl ns zs ms g n)(B:Book5 A H' bk pa sn' dl' g' n')(k:Keep2 bk pa H H'):Wk A H0 H' b l tw mn bk pa sn' dl' ns zs ms g' n':=by
 obtain⟨dx,pg,fu,ps,h1,h2,h3,PA,h5⟩:=id W.book;obtain⟨i,left,turn,seed,b1,b2,b3⟩:=id W.box;refine⟨λc o e=>k c o (W.same c o e) (Z6 e W.fk) (Z6 e W.fp),⟨i,left,turn,seed,k _ _ b1 (Zk b1 h1 (by simp)) (Ne.symm (W.box.ne_refs h2)),k _ _ b2 (Zk b2 h1 (by simp)) W.nl,b3⟩,k _ _ W.ht (Zk W.ht h1 (by simp)) W.nt,k _ _ W.hm (Zk W.hm h1 (by simp)) W.nm,B,W.fb,W.fk,W.fp,W.nl,W.nt,W.nm⟩
noncomputable def ZU (zs ms:List Str)(k:Nat):List Mn:=(List.range k).map λi=>(ms.getD i "",zs.getD (i % 6) "",((i % 6:Nat):Int))
structure Fx (zs ms:List Str):Prop where
 lz:zs.length=6
 lm:ms.length=40
 nz:NmL zs
 nm:NmL ms
theorem NmL.nodup {zs:List Str}(h:NmL zs):zs.Nodup:=List.pairwise_iff_getElem.mpr λi j hi hj ij=>(h i _ (List.getElem?_eq_getElem hi)).ne (h j _ (List.getElem?_eq_getElem hj)) (by omega)
theorem Nm.ne0 {i:Nat}{z:Str}(h:Nm i z):z≠"":=λe=>by
 obtain⟨_,r,e1,_⟩:=h;rw[e] at e1;have e2:([]:List Nat)=(97 + i % 26)::(97 + i / 26)::r:=e1;cases e2
theorem Z0R {zs ms:List Str}{k:Nat}(h:k≤ms.length):(ZU zs ms k).map (·.1)=ms.take k:=by
 unfold ZU;rw[List.map_map];apply List.ext_getElem?;intro i
 by_cases q:i < k
 ·simp[q,show i < ms.length by omega]
 ·rw[List.getElem?_eq_none (by simp;omega),List.getElem?_eq_none (by simp;omega)]
theorem Z4n {zs ms:List Str}{k:Nat}:ZU zs ms (k + 1)=ZU zs ms k++[(ms.getD k "",zs.getD (k % 6) "",((k % 6:Nat):Int))]:=by
 unfold ZU;rw[List.range_succ,List.map_append];rfl
theorem ZW {zs:List Str}{i:Nat}(h:i < zs.length):zs[i]? = some (zs.getD i ""):=by simp[h]
theorem Fx.run {zs ms:List Str}(F:Fx zs ms):∀ i nm,ms[i]? = some nm→∃ (hm:Str) (r:Int) (s:Str),(ZU zs ms 40)[i]? = some (nm,hm,r)∧zs[(i + 1) % 6]? = some s∧hm≠s∧s≠"":=λi nm hi=>by
 have li:i < 40:=by rw[←F.lm];exact (List.getElem?_eq_some_iff.mp hi).1
 have h1:=ZW (zs:=zs) (i:=i % 6) (by rw[F.lz];omega);have h2:=ZW (zs:=zs) (i:=(i + 1) % 6) (by rw[F.lz];omega);refine⟨zs.getD (i % 6) "",((i % 6:Nat):Int),zs.getD ((i + 1) % 6) "",?_,h2,(F.nz _ _ h1).ne (F.nz _ _ h2) (by omega),(F.nz _ _ h2).ne0⟩;unfold ZU;rw[List.getElem?_map,List.getElem?_range li];have e:ms.getD i "" = nm:=by rw[List.getD_eq_getElem?_getD,hi];rfl
 simp[e,hi]
noncomputable abbrev gA (zs ms:List Str)(D:List Ent)(nx:Int):Pg:=⟨zs,ZU zs ms 40,none,D,nx⟩
theorem Fx.names {zs ms:List Str}(F:Fx zs ms):(ZU zs ms 40).map (·.1)=ms:=by rw[Z0R (by rw[F.lm];exact Nat.le_refl _),←F.lm,List.take_length]
theorem Fx.nd {zs ms:List Str}(F:Fx zs ms):((ZU zs ms 40).map (·.1)).Nodup:=by rw[F.names];exact F.nm.nodup
theorem Yf {zs ms:List Str}{k:Nat}:(ZU zs ms k).length=k:=by simp[ZU]
theorem Z52 {zs ms:List Str}{D:List Ent}{nx:Int}{nm s:Str}{k:Nat}(F:Fx zs ms)(h1:nm∈ms)(h2:s∈zs):Xh (gA zs ms D nx) (kindOf nm s k)=none:=by
 have h1':nm∈(ZU zs ms 40).map (·.1):=by rw[F.names];exact h1
 match k with
 | 0=>show (if ¬ nm∈(ZU zs ms 40).map (·.1) then some 4 else if ¬ s∈zs then some 3 else none)=none;rw[if_neg (by simpa using h1'),if_neg (by simpa using h2)]
 | 1=>show (if ¬ nm∈(ZU zs ms 40).map (·.1) then some 4 else none)=none;rw[if_neg (by simpa using h1')]
 | 2=>show (if ¬ nm∈(ZU zs ms 40).map (·.1) then some 4 else if ¬ s∈zs then some 3 else none)=none;rw[if_neg (by simpa using h1'),if_neg (by simpa using h2)]
 | _ + 3=>show (if ¬ nm∈(ZU zs ms 40).map (·.1) then some 4 else none)=none;rw[if_neg (by simpa using h1')]
theorem Z8A {k:Nat}:0≤JS k∧Z0J k≤100:=by
 match k with
 | 0=>exact⟨by decide,by decide⟩
 | 1=>exact⟨by decide,by decide⟩
 | 2=>exact⟨by decide,by decide⟩
 | _ + 3=>exact⟨by show (0:Int)≤99;decide,by show (100:Int)≤100;decide⟩
theorem tell_step {A:Ad}{H:Hp}{bk pa sn dl:Addr}{zs ms:List Str}{D:List Ent}{b nx day:Int}{n i:Nat}{st:Nat→Nat}{nm s:Str}{d:Deed}{Q:VK}{E:XK}(B:Book5 A H bk pa sn dl (gA zs ms D nx) n)(hn:n≤900)(F:Fx zs ms)(b0:0≤b)(b1:b≤899000)(K:Bk b zs ms st D nx)(few:D.length < 120)
 (hi:ms[i]? = some nm) (hs:zs[(i + 1) % 6]? = some s) (kk:Nat) (hk:st i=kk) (h4:kk < 4) (hd:d=kindOf nm s kk) (d1:b + JS kk≤day) (d2:day < b + Z0J kk) (hx:nx=Z18 i kk)
 (k:∀ (dl':Addr) (H':Hp) (D':List Ent),H dl'=none→Book5 A H' bk pa sn dl' (gA zs ms D' (nx + 1)) (n + 1)→Keep2 bk pa H H'→Bk b zs ms (Yu st i (kk + 1)) D' (nx + 1)→D'.length=D.length + 1→Q (.int nx) H'):TellK A H bk pa sn dl (gA zs ms D nx) n day d Q E:=by
 subst hk;have q:=Z8A (k:=st i);have dn:Yt (gA zs ms D nx) day d=none:=by
  unfold Yt;rw[if_neg (by omega),hd,Z52 F (List.mem_of_getElem? hi) (List.mem_of_getElem? hs)];dsimp only;rw[if_neg (by omega)]
 refine⟨B,hn,F.nd,by rw[Yf];decide,(λj e=>by rw[dn] at e;cases e),λ_=>?_⟩;obtain⟨us,ts,e,spl,K'⟩:=K.tell F.nm.nodup hi hs h4 hd d1 d2 hx (by omega);exact⟨us,ts,e,spl,K'.run (by rw[Yf];exact F.lm) F.run,λdl' H' hdl B' kp=>k dl' H' _ hdl B' kp K' (by rw[e];simp;omega)⟩
noncomputable def stA (i:Nat):Nat→Nat:=λj=>if j < i then 2 else 0
noncomputable def stB (i:Nat):Nat→Nat:=λj=>if j < i then 3 else 2
theorem Z82 {i:Nat}:stA i i=0:=if_neg (Nat.lt_irrefl i)
theorem Z8g {i:Nat}:stB i i=2:=if_neg (Nat.lt_irrefl i)
theorem Z79 {st:Nat→Nat}{i k:Nat}:Yu st i k i=k:=if_pos rfl
theorem Z5G {i:Nat}:Yu (Yu (stA i) i 1) i 2=stA (i + 1):=by
 funext j
 unfold Yu stA
 by_cases q:j=i
 ·rw[if_pos q,if_pos (by omega)]
 ·rw[if_neg q,if_neg q]
  by_cases q2:j < i
  ·rw[if_pos q2,if_pos (by omega)]
  ·rw[if_neg q2,if_neg (by omega)]
theorem Z5r {i:Nat}:Yu (stB i) i 3=stB (i + 1):=by
 funext j
 unfold Yu stB
 by_cases q:j=i
 ·rw[if_pos q,if_pos (by omega)]
 ·rw[if_neg q]
  by_cases q2:j < i
  ·rw[if_pos q2,if_pos (by omega)]
  ·rw[if_neg q2,if_neg (by omega)]
theorem Z6V {b:Int}{zs ms:List Str}:Bk b zs ms (stA 0) [] (2 * ((0:Nat):Int) + 1):=Bk.nil
theorem Z6T {b nx:Int}{zs ms:List Str}{D:List Ent}(F:Fx zs ms)(h:Bk b zs ms (stA 40) D nx):Bk b zs ms (stB 0) D nx:=
 ⟨h.srt,h.num,h.nod,h.who,λi nm s h1 h2=>by
  have li:i < 40:=by rw[←F.lm];exact (List.getElem?_eq_some_iff.mp h1).1
  have p:=h.pat i nm s h1 h2;rw[show stA 40 i=2 from if_pos li] at p;rw[show stB 0 i=2 from if_neg (by omega)];exact p⟩
theorem Z3b {A:Ad}{H:Hp}{bk pa sn dl:Addr}{zs ms:List Str}{D:List Ent}{b nx:Int}{n t:Nat}{st:Nat→Nat}{Q:VK}{E:XK}(B:Book5 A H bk pa sn dl (gA zs ms D nx) n)(hn:n≤900)(F:Fx zs ms)(K:Bk b zs ms st D nx)(len:D.length=120)(ht:t < 40)(hst:∀ i,i < 40→st i=3)
 (k:∀ (dl':Addr) (H':Hp) (D':List Ent),H dl'=none→Book5 A H' bk pa sn dl' (gA zs ms D' nx) (n + 1)→Keep2 bk pa H H'→Bk b zs ms (Yu st t 2) D' nx→D'.length=119→Q .non H'):Z1L A [.ref bk,.int (81 + (t:Int))] H Q E:=by
 have hm:=ZW (zs:=ms) (i:=t) (by rw[F.lm];exact ht);have hs:=ZW (zs:=zs) (i:=(t + 1) % 6) (by rw[F.lz];omega);obtain⟨inn,K'⟩:=K.strike F.lm ht hst hm hs;have l119:=Z0X K.nod inn;have ne:(D.filter λd=>!decide (d.1=81 + (t:Int)))≠[]:=λz=>by rw[z] at l119;simp at l119;omega
 have cat:=List.dropLast_concat_getLast ne;refine⟨bk,pa,sn,dl,_,n,81 + (t:Int),_,_,_,rfl,B,hn,by show D.length≤900;omega,inn,rfl,cat.symm,⟨?_,?_,λx hx=>(by simp at hx),?_⟩,F.nd,by rw[Yf];decide,K'.run (by rw[Yf];exact F.lm) F.run,λdl' H' hdl B' kp=>k dl' H' _ hdl B' kp K' (by show (D.filter λd=>!decide (d.1=81 + (t:Int))).length=119;omega)⟩
 ·have:=K'.srt;rw[←cat] at this;rw[List.append_nil];exact (List.pairwise_append.mp this).1
 ·intro x hx;have:=K'.srt;rw[←cat] at this;exact (List.pairwise_append.mp this).2.2 x hx _ (by simp)
 ·simp;omega
theorem Z4q {zs:List Str}(h:0 < zs.length):∃ x0,(Yg zs)[0]? = some x0∧x0∈zs:=by
 unfold Yg;have l:=W.sortP_length (ltS zs) zs.length;have h0:0 < (W.sortP (ltS zs) zs.length).length:=by omega
 have lt:=W.sortP_lt (ltS zs) zs.length _ (List.getElem_mem h0);refine⟨zs.getD (W.sortP (ltS zs) zs.length)[0] Str.empty,by rw[List.getElem?_map,List.getElem?_eq_getElem h0];rfl,?_⟩;rw[List.getD_eq_getElem?_getD,List.getElem?_eq_getElem lt];exact List.getElem_mem lt
theorem Z1i:Yh "Zz" = false:=by decide +kernel
noncomputable abbrev freshS:Str:="abcdefzz"
theorem XW:Yh freshS=true:=by decide +kernel
theorem Z4M {zs ms:List Str}{D:List Ent}{nx b:Int}{x0 one z2:Str}(F:Fx zs ms)(len:D.length=120)(b0:0≤b)(b1:b≤899000)(hx:x0∈zs)(ho:one∈ms)(h2:z2∈zs)(f1:¬ freshS∈zs)(f2:¬ freshS∈ms) :
 Zz (gA zs ms D nx) x0 0 "Zz" 0=some 0∧Zz (gA zs ms D nx) x0 0 z2 0=some 1∧Zz (gA zs ms D nx) x0 0 freshS 0=some 2∧Zz (gA zs ms D nx) x0 1 "Zz" 0=some 0∧Zz (gA zs ms D nx) x0 1 one 0=some 1∧Zz (gA zs ms D nx) x0 1 freshS 0=some 2∧
 Zz (gA zs ms D nx) x0 2 "Zz" b=some 4∧Zz (gA zs ms D nx) x0 2 one (-1)=some 9∧Zz (gA zs ms D nx) x0 2 one (b + 95)=some 2∧Zz (gA zs ms D nx) x0 3 one b=some 2∧Zz (gA zs ms D nx) x0 3 one 1000000=some 2∧Zz (gA zs ms D nx) x0 4 freshS 0=some 3∧Zz (gA zs ms D nx) x0 5 freshS 0=some 5:=by
 have gz:Yh z2=true:=by obtain⟨i,hi⟩:=List.mem_iff_getElem?.mp h2;exact (F.nz i _ hi).good
 have go:Yh one=true:=by obtain⟨i,hi⟩:=List.mem_iff_getElem?.mp ho;exact (F.nm i _ hi).good
 have ho':one∈(ZU zs ms 40).map (·.1):=by rw[F.names];exact ho
 have f2':¬ freshS∈(ZU zs ms 40).map (·.1):=by rw[F.names];exact f2
 have zz:¬ ("Zz" : Str)∈(ZU zs ms 40).map (·.1):=by
  rw[F.names];intro z;obtain⟨i,hi⟩:=List.mem_iff_getElem?.mp z;have:=(F.nm i _ hi).good;rw[Z1i] at this;cases this
 have ml:(ZU zs ms 40).length=40:=Yf;have tk:∀ day:Int,0≤day→day≤1000000→Yt (gA zs ms D nx) day (.take one x0)=some 2:=λday d0 d1=>by
  unfold Yt Xh;rw[if_neg (by omega)];dsimp only;rw[if_neg (by simpa using ho'),if_neg (by simpa using hx)];dsimp only;rw[if_pos (by omega)]
 have wd:∀ day:Int,0≤day→day≤1000000→Yt (gA zs ms D nx) day (.word one)=some 2:=λday d0 d1=>by
  unfold Yt Xh;rw[if_neg (by omega)];dsimp only;rw[if_neg (by simpa using ho')];dsimp only;rw[if_pos (by omega)]
 have w0:∀ nm day,Zz (gA zs ms D nx) x0 0 nm day=X9 zs nm:=λnm day=>rfl;have w1:∀ nm day,Zz (gA zs ms D nx) x0 1 nm day=Ya zs (ZU zs ms 40) nm x0 0:=λnm day=>rfl;have w2:∀ nm day,Zz (gA zs ms D nx) x0 2 nm day=Yt (gA zs ms D nx) day (.take nm x0):=λnm day=>rfl;have w3:∀ nm day,Zz (gA zs ms D nx) x0 3 nm day=Yt (gA zs ms D nx) day (.word nm):=λnm day=>rfl;have w4:∀ nm day,Zz (gA zs ms D nx) x0 4 nm day=Ya zs (ZU zs ms 40) nm nm 9:=λnm day=>rfl;have w5:∀ nm day,Zz (gA zs ms D nx) x0 5 nm day=Ya zs (ZU zs ms 40) nm x0 9:=λnm day=>rfl;refine⟨?_,?_,?_,?_,?_,?_,?_,?_,?_,?_,?_,?_,?_⟩
 ·rw[w0];unfold X9;rw[if_pos Z1i]
 ·rw[w0];unfold X9;rw[if_neg (by rw[gz];simp),if_pos h2]
 ·rw[w0];unfold X9;rw[if_neg (by rw[XW];simp),if_neg f1,if_pos (by rw[F.lz];decide)]
 ·rw[w1];unfold Ya;rw[if_pos Z1i]
 ·rw[w1];unfold Ya;rw[if_neg (by rw[go];simp),if_pos ho']
 ·rw[w1];unfold Ya;rw[if_neg (by rw[XW];simp),if_neg f2',if_neg (by simpa using hx),if_neg (by decide),if_pos (by rw[ml];decide)]
 ·rw[w2];unfold Yt Xh;rw[if_neg (by omega)];dsimp only;rw[if_pos zz]
 ·rw[w2];unfold Yt;rw[if_pos (by decide)]
 ·rw[w2];exact tk _ (by omega) (by omega)
 ·rw[w3];exact wd _ (by omega) (by omega)
 ·rw[w3];exact wd _ (by omega) (by omega)
 ·rw[w4];unfold Ya;rw[if_neg (by rw[XW];simp),if_neg f2',if_pos f1]
 ·rw[w5];unfold Ya;rw[if_neg (by rw[XW];simp),if_neg f2',if_neg (by simpa using hx),if_pos (by decide)]
noncomputable def Z20 (K:W.Frag):Sp:=λvs H Q _=>∃ (a:Addr) (ns:List Int),vs=[.ref a]∧SqL K H a (ns.map V.int)∧ns.length≤63∧∀ H',Q (.bl true) H'
noncomputable abbrev XA:Str:="abcdef"
theorem Z8W {i:Nat}(h:i < 6):(Xz XA)[i]? = some ⟨#[97 + i]⟩:=by
 have:∀ j:Fin 6,(Xz XA)[j.val]? = some ⟨#[97 + j.val]⟩:=by decide +kernel
 exact this ⟨i,h⟩
theorem Z6p:(XA++"zz" : Str)=freshS:=by decide +kernel
noncomputable abbrev dueS40:List Str:=["BadName","Taken","Full","BadName","Taken","Full","NoMan","BadDay","Full","Full","Full","NoSide","BadRank"]
noncomputable abbrev Z5h (z2 one:Str)(bb:Int):List (Int×Str×Int):=[(0,"Zz",0),(0,z2,0),(0,freshS,0),(1,"Zz",0),(1,one,0),(1,freshS,0),(2,"Zz",bb),(2,one,-1),(2,one,bb + 95),(3,one,bb),(3,one,1000000),(4,freshS,0),(5,freshS,0)]
noncomputable def AskAt (H:Hp)(ts:List Addr)(as:List (Int×Str×Int)):Prop:=∀ i,i < 13→∃ t wy nm day,ts[i]? = some t∧H t=some (.tup [.int wy,.str nm,.int day])∧as[i]? = some (wy,nm,day)
theorem AskAt.same {H H':Hp}{ts:List Addr}{as:List (Int×Str×Int)}(h:AskAt H ts as)(s:Same H H'):AskAt H' ts as:=λi hi=>by
 obtain⟨t,wy,nm,day,a,b,c⟩:=h i hi;exact⟨t,wy,nm,day,a,s _ _ b,c⟩
theorem Z7s {zs ms:List Str}{D:List Ent}{nx b:Int}{x0 one z2 nm:Str}{i:Nat}{wy day:Int}(F:Fx zs ms)(len:D.length=120)(b0:0≤b)(b1:b≤899000)(hx:x0∈zs)(ho:one∈ms)(h2:z2∈zs)(f1:¬ freshS∈zs)(f2:¬ freshS∈ms)(hi:i < 13)(h:(Z5h z2 one b)[i]? = some (wy,nm,day)) :
 ∃ j,Zz (gA zs ms D nx) x0 wy nm day=some j∧j < 20∧dueS40[i]? = some (words.getD j "")∧nm.cps.size≤1000:=by
 obtain⟨d0,d1,d2,d3,d4,d5,d6,d7,d8,d9,d10,d11,d12⟩:=Z4M (D:=D) (nx:=nx) F len b0 b1 hx ho h2 f1 f2;have l2:z2.cps.size≤1000:=by obtain⟨j,hj⟩:=List.mem_iff_getElem?.mp h2;exact Nat.le_trans (F.nz j _ hj).size (by decide)
 have lo:one.cps.size≤1000:=by obtain⟨j,hj⟩:=List.mem_iff_getElem?.mp ho;exact Nat.le_trans (F.nm j _ hj).size (by decide)
 have lf:freshS.cps.size≤1000:=by decide +kernel
 have lz:("Zz" : Str).cps.size≤1000:=by decide +kernel
 match i,hi with
 | 0,_=>obtain⟨rfl,rfl,rfl⟩:(0:Int)=wy∧("Zz" : Str)=nm∧(0:Int)=day:=by simpa using h
        exact⟨0,d0,by decide,rfl,lz⟩
 | 1,_=>obtain⟨rfl,rfl,rfl⟩:(0:Int)=wy∧z2=nm∧(0:Int)=day:=by simpa using h
        exact⟨1,d1,by decide,rfl,l2⟩
 | 2,_=>obtain⟨rfl,rfl,rfl⟩:(0:Int)=wy∧freshS=nm∧(0:Int)=day:=by simpa using h
        exact⟨2,d2,by decide,rfl,lf⟩
 | 3,_=>obtain⟨rfl,rfl,rfl⟩:(1:Int)=wy∧("Zz" : Str)=nm∧(0:Int)=day:=by simpa using h
        exact⟨0,d3,by decide,rfl,lz⟩
 | 4,_=>obtain⟨rfl,rfl,rfl⟩:(1:Int)=wy∧one=nm∧(0:Int)=day:=by simpa using h
        exact⟨1,d4,by decide,rfl,lo⟩
 | 5,_=>obtain⟨rfl,rfl,rfl⟩:(1:Int)=wy∧freshS=nm∧(0:Int)=day:=by simpa using h
        exact⟨2,d5,by decide,rfl,lf⟩
 | 6,_=>obtain⟨rfl,rfl,rfl⟩:(2:Int)=wy∧("Zz" : Str)=nm∧b=day:=by simpa using h
        exact⟨4,d6,by decide,rfl,lz⟩
 | 7,_=>obtain⟨rfl,rfl,rfl⟩:(2:Int)=wy∧one=nm∧(-1:Int)=day:=by simpa using h
        exact⟨9,d7,by decide,rfl,lo⟩
 | 8,_=>obtain⟨rfl,rfl,rfl⟩:(2:Int)=wy∧one=nm∧b + 95=day:=by simpa using h
        exact⟨2,d8,by decide,rfl,lo⟩
 | 9,_=>obtain⟨rfl,rfl,rfl⟩:(3:Int)=wy∧one=nm∧b=day:=by simpa using h
        exact⟨2,d9,by decide,rfl,lo⟩
 | 10,_=>obtain⟨rfl,rfl,rfl⟩:(3:Int)=wy∧one=nm∧(1000000:Int)=day:=by simpa using h
         exact⟨2,d10,by decide,rfl,lo⟩
 | 11,_=>obtain⟨rfl,rfl,rfl⟩:(4:Int)=wy∧freshS=nm∧(0:Int)=day:=by simpa using h
         exact⟨3,d11,by decide,rfl,lf⟩
 | 12,_=>obtain⟨rfl,rfl,rfl⟩:(5:Int)=wy∧freshS=nm∧(0:Int)=day:=by simpa using h
         exact⟨5,d12,by decide,rfl,lf⟩
theorem Z2N {H:Hp}:∀ {vs:List V}{ds:List PyData},Reps H vs ds→vs.length=ds.length
 | _,_,.nil=>rfl
 | _,_,.cons _ r=>by rw[List.length_cons,List.length_cons,Z2N r]
theorem Z5T {H:Hp}{p:Addr}{ds:List PyData}(h:Rep H (.ref p) (.list ds)):∃ xs,H p=some (.lst xs)∧xs.length=ds.length:=by
 cases h with
 | lst a b c=>exact⟨_,a,Z2N c⟩
theorem Z8K:Txt.join "" (Xz XA)=XA:=by decide +kernel
theorem NmL.out {ms:List Str}{i:Nat}{m:Str}(h:NmL ms)(e:ms[i]? = some m):¬ m∈ms.take i:=λq=>by
 obtain⟨j,hj⟩:=List.mem_iff_getElem?.mp q;rw[List.getElem?_take] at hj
 split at hj
 ·rename_i lt;exact (h j m hj).ne (h i m e) (by omega) rfl
 ·cases hj
section
variable {P:Program}{w:World}{K:W.Frag}{mg:Str→Option Value}{base:Heap}{A:Ad}
theorem Z8m (T:Txt K mg A)(TD:DictF w K A.Z9e (ZI A)):FnOk P w K mg base CX0 12 A.ZfX A.Zfd ["_law_script"] (Z20 K):=by
 have ZgI:=@Z7k P w K mg base A T;have Z9Y:=@Z2v P w K mg base A T;have Zdi:=@Z5M P w K mg base A T;have ZfQ:=@Z1T P w K mg base A T;have ZfP:=(@JO P w K mg base A T).calm;have Zg8:=(@Z06 P w K mg base A T).calm;have ZdQ:=(@Z04 P w K mg base A T TD).calm;have ZfK:=(@Z0h P w K mg base A T TD).calm;have ZfH:=(@Z2S P w K mg base A T TD).calm;have Zf7:=@Z0Z P w K mg base A T TD;have Za3:=@Jv P w K mg base A T;have Zg0:=@Z2G P w K mg base A T;have Zdz:=@Z1s P w K mg base A T;have ZfS:=@Z5F P w K mg base A T TD;refine T.Zgs.ok Z9r (λvs H Q E h=>?_) (λcdv A' outer s H vs Q E hr h=>?_)
 ·obtain⟨a,ns,rfl,_⟩:=h;rfl
 ·obtain⟨a,ns,rfl,hS,hns,k⟩:=h;have hu:=Z8p hr;refine⟨_,(Z7W (Zr (ZJ (Zi (i:=1) Z9r.nd rfl (Or.inl rfl) (Zc ZgI (hr.mono (by decide)) rfl T.Zgi T.Zfm.kp T.Zg9 .nil Zg (Z0 (pv 0) Z4))))
   (Zr (ZJ (Zi (i:=2) Z9r.nd rfl (Or.inl rfl) (Zc Zdi (hr.mono (by decide)) rfl T.Zbo T.Zaj.kp T.Zbg .nil Zg (Z0 (pv 1) (Z0 Z5 Z4)))))
   (Zr (ZJ (Zi (i:=3) Z9r.nd rfl (Or.inl rfl) (Zc Zdi (hr.mono (by decide)) rfl T.Zbo T.Zaj.kp T.Zbg .nil Zg (Z0 (pv 1) (Z0 Z5 Z4)))))
   (Zr (ZJ (Zi (i:=4) Z9r.nd rfl (Or.inr rfl) (Z5U T.ZfV ZfQ (hr.mono (by decide)) rfl T.Zgc T.Zeb .nil Zg)))
   (Zr (ZJ (Zi (i:=5) Z9r.nd rfl (Or.inl rfl) (Zd Jy (Zc Z9Y (hr.mono (by decide)) rfl T.Z9X T.Z9Q.kp T.Z9W .nil Zg (Z0 (pv 1) (Z0 Z5 Z4))) Z5)))
   (Zr (ZJ (XJ PassesOwn.never rfl (piL (K:=K) rfl (pv 2)) (Zu (i:=6) Z9r.nd rfl (Or.inl rfl)) (Z7 (Zl (Y6 (pv 4) T.Z94 ⟨T.Zck,T.ZbC,T.ZaZ.kp⟩ ZfP (hr.mono (by decide)) T.ZcJ .nil Zg (Z0 (pv 6) Z4))))))
   (Zr (ZJ (XJ PassesOwn.never rfl (XQ rfl T.Zbu (Z0 Z5 Z4)) (Zu (i:=7) Z9r.nd rfl (Or.inl rfl)) (Z7 (Zl (Y6 (pv 4) T.Z94 ⟨T.ZaE,T.Zae,T.Za6.kp⟩ Zg8 (hr.mono (by decide)) T.Zau .nil Zg (Z0 (Zj (ixL (K:=K) rfl) (pv 3) (pv 7) (λ_ _=>rfl)) (Z0 (Zj (ixL (K:=K) rfl) (pv 2) (Zd Y9 (pv 7) Z5) (λ_ _=>rfl)) (Z0 (Zd Y9 (pv 7) Z5) Z4))))))))
   (Zr (ZJ (XJ PassesOwn.never rfl (XQ rfl T.Zbu (Z0 Z5 Z4)) (Zu (i:=7) Z9r.nd rfl (Or.inl rfl)) (Z8 (Zl (Y6 (pv 4) T.Z94 ⟨T.ZaX,T.Zaz,T.Zad.kp⟩ ZdQ (hr.mono (by decide)) T.Zb3 .nil Zg (Z0 (Zd ZE (pv 5) (Zc Z9Y (hr.mono (by decide)) rfl T.Z9X T.Z9Q.kp T.Z9W .nil Zg (Z0 (pv 1) (Z0 Z5 Z4)))) (Z0 (Zj (ixL (K:=K) rfl) (pv 3) (pv 7) (λ_ _=>rfl)) (Z0 (Zj (ixL (K:=K) rfl) (pv 2) (Zd Y9 (Zd ZE (pv 7) Z5) Z5) (λ_ _=>rfl)) Z4)))))
   (Z7 (Zl (Y6 (pv 4) T.Z94 ⟨T.ZcB,T.ZbY,T.Zb4.kp⟩ ZfK (hr.mono (by decide)) T.ZcA .nil Zg (Z0 (Zd ZE (Zd ZE (pv 5) Z5) (Zc Z9Y (hr.mono (by decide)) rfl T.Z9X T.Z9Q.kp T.Z9W .nil Zg (Z0 (pv 1) (Z0 Z5 Z4)))) (Z0 (Zj (ixL (K:=K) rfl) (pv 3) (pv 7) (λ_ _=>rfl)) Z4))))))))
   (Zr (ZJ (XJ PassesOwn.never rfl (XQ rfl T.Zbu (Z0 Z5 Z4)) (Zu (i:=7) Z9r.nd rfl (Or.inl rfl)) (Z7 (ZD (Zm Jm (Y6 (pv 4) T.Z94 ⟨T.ZaX,T.Zaz,T.Zad.kp⟩ ZdQ (hr.mono (by decide)) T.Zb3 .nil Zg (Z0 (Zd ZE (Zd ZE (pv 5) Z5) (Zc Z9Y (hr.mono (by decide)) rfl T.Z9X T.Z9Q.kp T.Z9W .nil Zg (Z0 (pv 1) (Z0 Z5 Z4)))) (Z0 (Zj (ixL (K:=K) rfl) (pv 3) (pv 7) (λ_ _=>rfl)) (Z0 (Zj (ixL (K:=K) rfl) (pv 2) (Zd Y9 (Zd ZE (pv 7) Z5) Z5) (λ_ _=>rfl)) Z4)))) (Zd ZE Z5 (pv 7)) (Zs _)) (Z7 (Zo XE)) Zq))))
   (Zr (ZJ (Zi (i:=8) Z9r.nd rfl (Or.inl rfl) (Zj (ixL (K:=K) rfl) (pv 3) (Zc Z9Y (hr.mono (by decide)) rfl T.Z9X T.Z9Q.kp T.Z9W .nil Zg (Z0 (pv 1) (Z0 Z5 Z4))) (λ_ _=>rfl))))
   (Zr (ZJ (Zi (i:=9) Z9r.nd rfl (Or.inl rfl) (Zd JB (Z0V PySem.F.plainAttrs_str PySem.F.slot_str_join PySem.F.type_str_join (Z3n (K:=K) rfl) Zb (Z0 (Xy (N:=["_law_name"]) (fr:=[none]) rfl (XN (osc:=Z3 Jk) (ON:=Z6E) (by decide +kernel) rfl rfl) (piL (K:=K) rfl (pv 2)) (λ_ _ _ _=>(Zu (i:=0) (show List.Nodup (["_law_name"]:List Str) by decide +kernel) rfl (Or.inl rfl))) (λ_ _ _ _=>(Zj Z0S (pv 0) Z5 (λ_ _=>rfl)))) Z4)) Zb)))
   (Zr (ZJ (Zi (i:=10) Z9r.nd rfl (Or.inl rfl) (ZL (Z0 (ZF (Z0 Z5 (Z0 Zb (Z0 Z5 Z4)))) (Z0 (ZF (Z0 Z5 (Z0 (Zj (ixL (K:=K) rfl) (pv 2) Z5 (λ_ _=>rfl)) (Z0 Z5 Z4)))) (Z0 (ZF (Z0 Z5 (Z0 (pv 9) (Z0 Z5 Z4)))) (Z0 (ZF (Z0 Z5 (Z0 Zb (Z0 Z5 Z4)))) (Z0 (ZF (Z0 Z5 (Z0 (pv 8) (Z0 Z5 Z4)))) (Z0 (ZF (Z0 Z5 (Z0 (pv 9) (Z0 Z5 Z4)))) Z4)))))))))
   (Zr (ZJ (Zi (i:=10) Z9r.nd rfl (Or.inl rfl) (Zd X2 (pv 10) (ZL (Z0 (ZF (Z0 Z5 (Z0 Zb (Z0 (pv 5) Z4)))) (Z0 (ZF (Z0 Z5 (Z0 (pv 8) (Z0 (Z8u Z87 Z5) Z4)))) (Z0 (ZF (Z0 Z5 (Z0 (pv 8) (Z0 (Zd ZE (pv 5) Z5) Z4)))) (Z0 (ZF (Z0 Z5 (Z0 (pv 8) (Z0 (pv 5) Z4)))) (Z0 (ZF (Z0 Z5 (Z0 (pv 8) (Z0 (Zd Z2f Z5 Z5) Z4)))) Z4)))))))))
   (Zr (ZJ (Zi (i:=10) Z9r.nd rfl (Or.inl rfl) (Zd X2 (pv 10) (ZL (Z0 (ZF (Z0 Z5 (Z0 (pv 9) (Z0 Z5 Z4)))) (Z0 (ZF (Z0 Z5 (Z0 (pv 9) (Z0 Z5 Z4)))) Z4))))))
   (Zr (Z4P (i:=11) Z9r.nd rfl (Or.inl rfl) (Zn (Zw Zb) (Zn (Zw Zb) (Zn (Zw Zb) (Zn (Zw Zb) (Zn (Zw Zb) (Zn (Zw Zb) (Zn (Zw Zb) (Zn (Zw Zb) (Zn (Zw Zb) (Zn (Zw Zb) (Zn (Zw Zb) Z2M))))))))))))
   (Zr (ZJ (Zi (i:=11) Z9r.nd rfl (Or.inl rfl) (Zd X2 (pv 11) (ZL (Z0 Zb (Z0 Zb Z4))))))
   (Zr (ZJ (ZD (Zm (inS (K:=K) rfl) (pv 9) (Zd X2 (pv 2) (pv 3)) (by with_unfolding_all rfl)) (Z7 (Zo XE)) Zq))
   (Zr (ZJ (Z7o (N:=["_law_way","_law_name","_law_day","_law_book"]) (fr:=[none,none,none,some 4]) rfl (XN (osc:=Z3 Jk) (ON:=Z6E) (by decide +kernel) rfl rfl) (piL (K:=K) rfl (pv 10)) (λ_ _ _ _=>(pgT (K:=K) (n:=3) rfl rfl (Y8 (Zu (i:=0) (show List.Nodup (["_law_way","_law_name","_law_day","_law_book"]:List Str) by decide +kernel) rfl (Or.inl rfl)) (Y8 (Zu (i:=1) (show List.Nodup (["_law_way","_law_name","_law_day","_law_book"]:List Str) by decide +kernel) rfl (Or.inl rfl)) (Y8 (Zu (i:=2) (show List.Nodup (["_law_way","_law_name","_law_day","_law_book"]:List Str) by decide +kernel) rfl (Or.inl rfl)) Jz))))) (λ_ _ _ _=>(Zc ZfS (hr.mono (by decide)) rfl T.ZeP T.ZdL.kp T.ZeT .nil Zg (Z0 (pv 3) (Z0 (pv 0) (Z0 (pv 1) (Z0 (pv 2) Z4)))))) (Zu (i:=12) Z9r.nd rfl (Or.inl rfl))))
   (Zr (ZJ (ZD (PW.pt (Z0P (Zm (Z7B hu) (pv 12) (pv 11) (Zs _)) (Z0P (Zm Jm (Zh (Z05 (K:=K) rfl) rfl T.ZaF PySem.boot_len (Z0 (Xd (pv 4) T.Z94 ⟨T.Zes,T.Zed,T.Zd3.kp⟩ Zg0 (hr.mono (by decide)) T.ZeJ .nil Zg) Z4)) Z5 (Zs _)) (Z0Q (Zm Jm (Zh (Z05 (K:=K) rfl) rfl T.ZaF PySem.boot_len (Z0 (Xd (pv 4) T.Z94 ⟨T.Za2,T.Z9U,T.Z9P.kp⟩ Za3 (hr.mono (by decide)) T.Za4 .nil Zg) Z4)) Z5 (Zs _)))))) (Z7 (Zo XE)) Zq))
   (Zr (ZJ (Zi (i:=13) Z9r.nd rfl (Or.inl rfl) (Zd ZE Z5 (Zc Z9Y (hr.mono (by decide)) rfl T.Z9X T.Z9Q.kp T.Z9W .nil Zg (Z0 (pv 1) (Z0 Z5 Z4))))))
   (Zr (ZJ (ZD (PW.pt (Z0P (Zm Z6Y (Y6 (pv 4) T.Z94 ⟨T.Zdd,T.ZcQ,T.Zbn.kp⟩ Zf7 (hr.mono (by decide)) T.Zdc .nil Zg (Z0 (pv 13) Z4)) Z7V (Zs _)) (Z0Q (Zm Jm (Zh (Z05 (K:=K) rfl) rfl T.ZaF PySem.boot_len (Z0 (Xd (pv 4) T.Z94 ⟨T.ZbI,T.Zbf,T.ZaB.kp⟩ Zdz (hr.mono (by decide)) T.Zbv .nil Zg) Z4)) Z5 (Zs _))))) (Z7 (Zo XE)) Zq))
   (Zr (ZJ (ZD (Zm Jm (Y6 (pv 4) T.Z94 ⟨T.Ze4,T.ZdH,T.Zcl.kp⟩ ZfH (hr.mono (by decide)) T.ZdU .nil Zg (Z0 (Zd ZE (pv 5) Z5) (Z0 (Zj (ixL (K:=K) rfl) (pv 3) (Zd Y9 (Zd Z8f (pv 13) Z5) Z5) (λ_ _=>rfl)) Z4))) Z5 (Zs _)) (Z7 (Zo XE)) Zq))
   (Z6C (ZJ (Zo (Z4t (Z1n Yz (Zc ZfS (hr.mono (by decide)) rfl T.ZeP T.ZdL.kp T.ZeT .nil Zg (Z0 (pv 4) (Z0 Z5 (Z0 (pv 8) (Z0 (Zd Z2f Z5 Z5) Z4))))) Zb (Zs _)) (Z57 (Z1n Yz (Zh (Z05 (K:=K) rfl) rfl T.ZaF PySem.boot_len (Z0 (Xd (pv 4) T.Z94 ⟨T.ZbI,T.Zbf,T.ZaB.kp⟩ Zdz (hr.mono (by decide)) T.Zbv .nil Zg) Z4)) Z5 (Zs _)))))))))))))))))))))))))))))),?_⟩
  walk_at "v";refine⟨a,ns,rfl,hS,hns,λb l H1 hb0 hl0 B1 s1=>?_⟩;walk_at "v";refine⟨b,l,ns,6,rfl,B1,by decide,by decide,λtw zs H2 htw0 B2 ht N2 len2 k2=>?_⟩;walk_at "v";refine⟨b,l,ns,40,rfl,B2,by decide,by decide,λmn ms H3 hmn0 B3 hm N3 len3 k3=>?_⟩;have ht3:=k3 _ _ ht (B2.ne_strs ht);have S3:Same H H3:=JT (JT s1 k2 hb0) k3 hb0;have F:Fx zs ms:=⟨by omega,by omega,N2,N3⟩;walk_at "v";intro bk dx hbk hdx ne;have e3:Same H3 (upd (upd H3 dx (.own bk)) bk (.ins A.Z93 dx [])):=λc o e=>by rw[Z2 (Z6 e hbk),Z2 (Z6 e hdx)];exact e
  refine⟨bk,dx,rfl,Z1,λpa sn dl H5 hpa hsn hdl B0 kp=>⟨rfl,?_⟩⟩;have s5:Same H3 H5:=λc o e=>kp _ _ (e3 _ _ e) (Z6 e hbk);obtain⟨bi,bl,bt,bsd,bb1,bb2,bb3⟩:=id B3;have W1:Wk A H H5 b l tw mn bk pa sn dl ns zs ms pg0 0:=
   { same:=S3.trans s5,box:=⟨bi,bl,bt,bsd,s5 _ _ bb1,s5 _ _ bb2,bb3⟩,ht:=s5 _ _ ht3,hm:=s5 _ _ hm,book:=B0,fb:=hb0,fk:=S3.free hbk,fp:=S3.free (e3.free hpa),nl:=Z6 (e3 _ _ bb2) hpa,nt:=Z6 (e3 _ _ ht3) hpa,nm:=Z6 (e3 _ _ hm) hpa }
  clear hdx ne e3 hpa hsn hdl B0 kp s5 bb1 bb2 bb3 hbk B3 ht3 hm ht B2 k2 k3 B1 s1 hb0 hl0 S3 htw0 hmn0 len2 len3 N2 N3;walk_at "v";refine⟨b,l,ns,900,rfl,W1.box,by decide,by decide,λb' H6 b0' b1' B6 k6 _=>?_⟩;have W2:=W1.take B6 k6;clear W1 B6 k6;walk_at "v";obtain⟨bb,ebb⟩:∃ bb:Int,bb=b' * 1000:=⟨_,rfl⟩;have b0:0≤bb:=by omega
  have b1:bb≤899000:=by omega
  rw[←ebb];clear ebb b0' b1';refine⟨_,rfl,tw,rfl,⟨_,SqL.of W2.ht⟩,?_⟩;refine Z1w (K:=K) (a:=tw) (xs:=zs.map V.str) (λi σ2 H'=>∃ (sn':Addr) (u6:Option V),σ2=[some (.ref a),some (.ref b),some (.ref tw),some (.ref mn),some (.ref bk),some (.int bb),u6,none,none,none,none,none,none,none]∧Wk A H H' b l tw mn bk pa sn' dl ns zs ms ⟨zs.take i,[],none,[],1⟩ i) ⟨sn,none,rfl,W2⟩ (λi σ2 H' _ q=>by obtain⟨_,_,_,q⟩:=q;exact SqL.of q.ht) ?_ ?_
  ·rintro i v σ2 H8 ei ⟨sn',u6,rfl,W4⟩;rw[List.getElem?_map] at ei;obtain⟨z,ez,rfl⟩:=Option.map_eq_some_iff.mp ei;have hi6:i < 6:=by rw[←F.lz];exact (List.getElem?_eq_some_iff.mp ez).1
   have Nz:=F.nz i z ez;walk_at "v";obtain⟨dx3,pg3,fu3,ps3,h3,_⟩:=id W4.book;refine⟨bk,dx3,_,rfl,h3,rfl,?_⟩;walk_at "v";have lt:(zs.take i).length=i:=by rw[List.length_take,F.lz];omega
   refine Z7x W4.book (by omega) (by show (zs.take i).length≤900;omega) (Nat.le_trans Nz.size (by decide)) (by unfold X9;rw[if_neg (by rw[Nz.good];simp),if_neg (F.nz.out ez),if_neg (by rw[lt];omega)]) λsn2 H9 _ B9 kp9=>?_;have W5:=W4.step B9 kp9;walk_at "v";refine⟨sn2,_,rfl,?_⟩;rw[show zs.take (i + 1)=zs.take i++[z] by rw[List.take_succ,ez];rfl];exact W5
  rintro σ2 H8 ⟨sn',u6,rfl,W4⟩;rw[show zs.take (zs.map V.str).length=zs by rw[List.length_map,List.take_length],List.length_map,F.lz] at W4;clear W2;walk_at "v";refine⟨40,rfl,by decide,by decide,Z0d (n:=40) (λi σ2 H'=>∃ u7:Option V,σ2=[some (.ref a),some (.ref b),some (.ref tw),some (.ref mn),some (.ref bk),some (.int bb),u6,u7,none,none,none,none,none,none]∧Wk A H H' b l tw mn bk pa sn' dl ns zs ms ⟨zs,ZU zs ms i,none,[],1⟩ (6 + i)) ⟨none,rfl,W4⟩ ?_ ?_⟩
  ·rintro i σ2 H9 hi ⟨u7,rfl,W5⟩;have em:=ZW (zs:=ms) (i:=i) (by rw[F.lm];exact hi);have es:=ZW (zs:=zs) (i:=i % 6) (by rw[F.lz];omega);have e6:((0:Int) + (i:Int)) % 6=((i % 6:Nat):Int):=by omega
   walk_at "v";obtain⟨dx3,pg3,fu3,ps3,h3,_⟩:=id W5.book;refine⟨bk,dx3,_,rfl,h3,rfl,?_⟩;walk_at "v";refine Zx (SqL.of W5.hm) (v:=.str (ms.getD i "")) (by rw[Int.zero_add];exact ZG (by rw[List.getElem?_map,em];rfl)) ?_;walk_at "v";rw[e6];refine Zx (SqL.of W5.ht) (v:=.str (zs.getD (i % 6) "")) (ZG (by rw[List.getElem?_map,es];rfl)) ?_;walk_at "v"
   try rw[e6]
   have Nm1:=F.nm i _ em;refine Z8h W5.book (by omega) (by show (ZU zs ms i).length≤900;rw[Yf];omega) (Nat.le_trans Nm1.size (by decide)) (by unfold Ya;rw[if_neg (by rw[Nm1.good];simp),if_neg (by rw[Z0R (by rw[F.lm];omega)];exact F.nm.out em),if_neg (by simpa using List.mem_of_getElem? es),if_neg (by omega),if_neg (by rw[Yf];omega)]) λHa Ba kpa=>?_;have W6:=W5.step Ba kpa;walk_at "v";refine⟨_,rfl,?_⟩;rw[Z4n];exact W6
  rintro σ2 H9 ⟨u7,rfl,W5⟩;clear W4;walk_at "v";refine⟨40,rfl,by decide,by decide,Z0d (n:=40) (λi σ2 H'=>∃ (u7:Option V) (dl':Addr) (D:List Ent),σ2=[some (.ref a),some (.ref b),some (.ref tw),some (.ref mn),some (.ref bk),some (.int bb),u6,u7,none,none,none,none,none,none]∧Wk A H H' b l tw mn bk pa sn' dl' ns zs ms (gA zs ms D (2 * (i:Int) + 1)) (46 + 2 * i)∧Bk bb zs ms (stA i) D (2 * (i:Int) + 1)∧D.length=2 * i) ⟨u7,dl,[],rfl,W5,Z6V,rfl⟩ ?_ ?_⟩
  ·rintro i σ2 Ha hi ⟨u7,dl',D,rfl,W6,K6,lD⟩;have em:=ZW (zs:=ms) (i:=i) (by rw[F.lm];exact hi);have es:=ZW (zs:=zs) (i:=(i + 1) % 6) (by rw[F.lz];omega);have e6:((0:Int) + (i:Int) + 1) % 6=(((i + 1) % 6:Nat):Int):=by omega
   walk_at "v";obtain⟨dx3,pg3,fu3,ps3,h3,_⟩:=id W6.book;refine⟨bk,dx3,_,rfl,h3,rfl,?_⟩;walk_at "v";refine⟨b,l,ns,30,rfl,W6.box,by decide,by decide,λr1 Hb r10 r11 Bb kb _=>?_⟩;have W7:=W6.take Bb kb;clear W6 Bb kb h3;walk_at "v";refine Zx (SqL.of W7.hm) (v:=.str (ms.getD i "")) (by rw[Int.zero_add];exact ZG (by rw[List.getElem?_map,em];rfl)) ?_;walk_at "v";rw[e6];refine Zx (SqL.of W7.ht) (v:=.str (zs.getD ((i + 1) % 6) "")) (ZG (by rw[List.getElem?_map,es];rfl)) ?_;walk_at "v";refine⟨bk,pa,sn',dl',_,_,bb + r1,_,_,rfl,tell_step (i:=i) W7.book (by omega) F b0 b1 K6 (by omega) em es 0 Z82 (by decide) rfl (by show bb + 0≤bb + r1;omega) (by show bb + r1 < bb + 30;omega) rfl λdl2 Hc D2 _ B2 kp2 K2 l2=>?_⟩;have W8:=W7.step B2 kp2;clear W7 B2 kp2 K6;walk_at "v";obtain⟨dx4,pg4,fu4,ps4,h4,_⟩:=id W8.book;refine⟨bk,dx4,_,rfl,h4,rfl,?_⟩;walk_at "v";refine⟨b,l,ns,30,rfl,W8.box,by decide,by decide,λr2 Hd r20 r21 Bd kd _=>?_⟩;have W9:=W8.take Bd kd;clear W8 Bd kd h4;walk_at "v";refine Zx (SqL.of W9.hm) (v:=.str (ms.getD i "")) (by rw[Int.zero_add];exact ZG (by rw[List.getElem?_map,em];rfl)) ?_;walk_at "v";refine⟨bk,pa,sn',dl2,_,_,bb + 30 + r2,_,rfl,tell_step (i:=i) W9.book (by omega) F b0 b1 K2 (by omega) em es 1 Z79 (by decide) rfl (by show bb + 30≤bb + 30 + r2;omega) (by show bb + 30 + r2 < bb + 60;omega) (by show 2 * (i:Int) + 1 + 1=2 * (i:Int) + 2;omega) λdl3 He D3 _ B3 kp3 K3 l3=>?_⟩;have Wa:=W9.step B3 kp3;clear W9 B3 kp3 K2;walk_at "v";have en:2 * (i:Int) + 1 + 1 + 1=2 * ((i + 1:Nat):Int) + 1:=by omega
   rw[en] at Wa K3;refine⟨_,dl3,D3,rfl,Wa,?_,by omega⟩;rw[Z5G] at K3;exact K3
  rintro σ2 Ha ⟨u7',dl',D,rfl,W6,K6,lD⟩;have K6':Bk bb zs ms (stB 0) D (81 + ((0:Nat):Int)):=Z6T F K6;have W6':Wk A H Ha b l tw mn bk pa sn' dl' ns zs ms (gA zs ms D (81 + ((0:Nat):Int))) (126 + 0):=W6;clear W5 W6 K6;walk_at "v";refine⟨40,rfl,by decide,by decide,Z0d (n:=40) (λi σ2 H'=>∃ (u7:Option V) (dl':Addr) (D:List Ent),σ2=[some (.ref a),some (.ref b),some (.ref tw),some (.ref mn),some (.ref bk),some (.int bb),u6,u7,none,none,none,none,none,none]∧Wk A H H' b l tw mn bk pa sn' dl' ns zs ms (gA zs ms D (81 + (i:Int))) (126 + i)∧Bk bb zs ms (stB i) D (81 + (i:Int))∧D.length=80 + i) ⟨u7',dl',D,rfl,W6',K6',lD⟩ ?_ ?_⟩
  ·clear W6' K6' lD;rintro i σ2 Hb hi ⟨u7,dl',D,rfl,W6,K6,lD⟩;have em:=ZW (zs:=ms) (i:=i) (by rw[F.lm];exact hi);have es:=ZW (zs:=zs) (i:=(i + 1) % 6) (by rw[F.lz];omega);have e6:((0:Int) + (i:Int) + 1) % 6=(((i + 1) % 6:Nat):Int):=by omega
   walk_at "v";obtain⟨dx3,pg3,fu3,ps3,h3,_⟩:=id W6.book;refine⟨bk,dx3,_,rfl,h3,rfl,?_⟩;walk_at "v";refine⟨b,l,ns,30,rfl,W6.box,by decide,by decide,λr1 Hb r10 r11 Bb kb _=>?_⟩;have W7:=W6.take Bb kb;clear W6 Bb kb h3;walk_at "v";refine Zx (SqL.of W7.hm) (v:=.str (ms.getD i "")) (by rw[Int.zero_add];exact ZG (by rw[List.getElem?_map,em];rfl)) ?_;walk_at "v";rw[e6];refine Zx (SqL.of W7.ht) (v:=.str (zs.getD ((i + 1) % 6) "")) (ZG (by rw[List.getElem?_map,es];rfl)) ?_;walk_at "v";refine⟨bk,pa,sn',dl',_,_,bb + 60 + r1,_,_,rfl,tell_step (i:=i) W7.book (by omega) F b0 b1 K6 (by omega) em es 2 Z8g (by decide) rfl (by show bb + 60≤bb + 60 + r1;omega) (by show bb + 60 + r1 < bb + 90;omega) rfl λdl2 Hc D2 _ B2 kp2 K2 l2=>?_⟩;have W8:=W7.step B2 kp2;clear W7 B2 kp2 K6;walk_at "v";refine Zt (by rw[decide_eq_true (by omega)];decide) ?_;walk_at "v";have en:81 + (i:Int) + 1=81 + ((i + 1:Nat):Int):=by omega
   rw[en] at W8 K2;rw[Z5r] at K2;exact⟨_,dl2,D2,rfl,W8,K2,by omega⟩
  rintro σ2 Hb ⟨u7,dl2,D2,rfl,W7,K7,lD2⟩;clear W6' K6' lD;walk_at "v";refine⟨b,l,ns,40,rfl,W7.box,by decide,by decide,λro Hc ro0 ro1 Bc kc _=>?_⟩;have W8:=W7.take Bc kc;clear W7 Bc kc;obtain⟨o,rfl⟩:∃ o:Nat,ro=(o:Int):=⟨ro.toNat,by omega⟩;have lo:o < 40:=by omega
  have eo:=ZW (zs:=ms) (i:=o) (by rw[F.lm];exact lo);generalize ms.getD o "" = one at eo;refine Zx (SqL.of W8.hm) (v:=.str one) (ZG (by rw[List.getElem?_map,eo];rfl)) ?_;walk_at "v";refine⟨rfl,?_⟩;walk_at "v";refine⟨_,rfl,tw,rfl,⟨_,SqL.of W8.ht⟩,λD hD=>?_⟩;refine JL 6 (λi ys τ H2=>Same Hc H2∧H2 D=some (.lst ys)∧ys=((Xz XA).take i).map V.str∧∃ u,τ=[u]) ⟨Same.new hD _,Z1,rfl,none,rfl⟩ (λi ys τ H2 _ q=>q.2.1) ?_ ?_
  ·rintro i ys τ H2 hi ⟨sm,hDz,rfl,u,rfl⟩;have ez:=ZW (zs:=zs) (i:=i) (by rw[F.lz];exact hi);generalize zs.getD i "" = z at ez;refine⟨⟨_,.str z,SqL.of (sm _ _ W8.ht),by rw[List.getElem?_map,ez];rfl⟩,ZR (by rw[List.length_map,List.length_take];omega),?_⟩;rintro x' H3 ⟨rfl,hx⟩;obtain rfl:x'=V.str z:=by
    have:=hx _ (SqL.of (sm _ _ W8.ht));rw[List.getElem?_map,ez] at this;exact (Option.some.inj this).symm
   walk_at "v";obtain⟨_,r,er,_⟩:=F.nz i z ez;have Nz:=F.nz i z ez;have c0:atI z.cps.toList 0=some (97 + i):=by
    rw[er,Nat.mod_eq_of_lt (by omega)];exact ZG (j:=0) rfl
   refine⟨z,0,_,rfl,rfl,ZC (Nat.le_trans Nz.size (by decide)),c0,?_⟩;refine⟨hDz,Jd sm hD,Z1,?_,_,rfl⟩;rw[Z02 (Z8W hi),List.map_append];rfl
  rintro ys τ H2 ⟨s2,hDz,rfl,u,rfl⟩;refine⟨⟨_,SqL.of (s2 _ _ W8.ht),by rw[List.length_map,F.lz];exact Nat.le_refl _⟩,?_⟩;rw[List.take_of_length_le (by rw[Z21];decide)] at hDz;have W9:=W8.more s2;walk_at "v";refine⟨_,D,Xz XA,rfl,rfl,SqL.of hDz,by decide +kernel,?_⟩;rw[Z8K];walk_at "v";refine⟨_,_,rfl,rfl,ZC (show 6 + 2≤1000 by decide),?_⟩;rw[Z6p];clear W8 s2 hDz;have e2:=ZW (zs:=zs) (i:=2) (by rw[F.lz];decide);generalize zs.getD 2 "" = z2 at e2;walk_at "v";refine⟨by show 3≤sizeLine;decide,λt0 ht0=>?_⟩;have s0:=Same.new ht0 (HO.tup [.int 0,.str "Zz",.int 0]);have c0:(upd H2 t0 (HO.tup [.int 0,.str "Zz",.int 0])) t0=some (.tup [.int 0,.str "Zz",.int 0]):=Z1
  change _
  generalize upd H2 t0 (HO.tup [.int 0,.str "Zz",.int 0])=G0 at s0 c0 ⊢;have S0:Same H2 G0:=s0;walk_at "v";refine Zx (SqL.of (W9.more S0).ht) (v:=.str z2) (ZG (j:=2) (by rw[List.getElem?_map,e2];rfl)) ?_;walk_at "v";refine⟨by show 3≤sizeLine;decide,λt1 ht1=>?_⟩;have s1:=Same.new ht1 (HO.tup [.int 0,.str z2,.int 0]);have c1:(upd G0 t1 (HO.tup [.int 0,.str z2,.int 0])) t1=some (.tup [.int 0,.str z2,.int 0]):=Z1
  change _
  generalize upd G0 t1 (HO.tup [.int 0,.str z2,.int 0])=G1 at s1 c1 ⊢;have S1:Same H2 G1:=S0.trans s1;walk_at "v";refine⟨by show 3≤sizeLine;decide,λt2 ht2=>?_⟩;have s2:=Same.new ht2 (HO.tup [.int 0,.str freshS,.int 0]);have c2:(upd G1 t2 (HO.tup [.int 0,.str freshS,.int 0])) t2=some (.tup [.int 0,.str freshS,.int 0]):=Z1
  change _
  generalize upd G1 t2 (HO.tup [.int 0,.str freshS,.int 0])=G2 at s2 c2 ⊢;have S2:Same H2 G2:=S1.trans s2;walk_at "v";refine⟨by show 3≤sizeLine;decide,λt3 ht3=>?_⟩;have s3:=Same.new ht3 (HO.tup [.int 1,.str "Zz",.int 0]);have c3:(upd G2 t3 (HO.tup [.int 1,.str "Zz",.int 0])) t3=some (.tup [.int 1,.str "Zz",.int 0]):=Z1
  change _
  generalize upd G2 t3 (HO.tup [.int 1,.str "Zz",.int 0])=G3 at s3 c3 ⊢;have S3:Same H2 G3:=S2.trans s3;walk_at "v";refine⟨by show 3≤sizeLine;decide,λt4 ht4=>?_⟩;have s4:=Same.new ht4 (HO.tup [.int 1,.str one,.int 0]);have c4:(upd G3 t4 (HO.tup [.int 1,.str one,.int 0])) t4=some (.tup [.int 1,.str one,.int 0]):=Z1
  change _
  generalize upd G3 t4 (HO.tup [.int 1,.str one,.int 0])=G4 at s4 c4 ⊢;have S4:Same H2 G4:=S3.trans s4;walk_at "v";refine⟨by show 3≤sizeLine;decide,λt5 ht5=>?_⟩;have s5:=Same.new ht5 (HO.tup [.int 1,.str freshS,.int 0]);have c5:(upd G4 t5 (HO.tup [.int 1,.str freshS,.int 0])) t5=some (.tup [.int 1,.str freshS,.int 0]):=Z1
  change _
  generalize upd G4 t5 (HO.tup [.int 1,.str freshS,.int 0])=G5 at s5 c5 ⊢;have S5:Same H2 G5:=S4.trans s5;walk_at "v";refine⟨by show 6≤sizeLine;decide,λqa hqa=>?_⟩;have sqa:=Same.new hqa (HO.lst [.ref t0,.ref t1,.ref t2,.ref t3,.ref t4,.ref t5]);have cqa:(upd G5 qa (HO.lst [.ref t0,.ref t1,.ref t2,.ref t3,.ref t4,.ref t5])) qa=some (.lst [.ref t0,.ref t1,.ref t2,.ref t3,.ref t4,.ref t5]):=Z1;generalize upd G5 qa (HO.lst [.ref t0,.ref t1,.ref t2,.ref t3,.ref t4,.ref t5])=Gqa at sqa cqa ⊢;have Sqa:Same H2 Gqa:=S5.trans sqa;walk_at "v";refine⟨by show 3≤sizeLine;decide,λt6 ht6=>?_⟩;have s6:=Same.new ht6 (HO.tup [.int 2,.str "Zz",.int bb]);have c6:(upd Gqa t6 (HO.tup [.int 2,.str "Zz",.int bb])) t6=some (.tup [.int 2,.str "Zz",.int bb]):=Z1
  change _
  generalize upd Gqa t6 (HO.tup [.int 2,.str "Zz",.int bb])=G6 at s6 c6 ⊢;have S6:Same H2 G6:=Sqa.trans s6;walk_at "v";refine⟨by show 3≤sizeLine;decide,λt7 ht7=>?_⟩;have s7:=Same.new ht7 (HO.tup [.int 2,.str one,.int (-1)]);have c7:(upd G6 t7 (HO.tup [.int 2,.str one,.int (-1)])) t7=some (.tup [.int 2,.str one,.int (-1)]):=Z1
  change _
  generalize upd G6 t7 (HO.tup [.int 2,.str one,.int (-1)])=G7 at s7 c7 ⊢;have S7:Same H2 G7:=S6.trans s7;walk_at "v";refine⟨by show 3≤sizeLine;decide,λt8 ht8=>?_⟩;have s8:=Same.new ht8 (HO.tup [.int 2,.str one,.int (bb + 95)]);have c8:(upd G7 t8 (HO.tup [.int 2,.str one,.int (bb + 95)])) t8=some (.tup [.int 2,.str one,.int (bb + 95)]):=Z1;generalize upd G7 t8 (HO.tup [.int 2,.str one,.int (bb + 95)])=G8 at s8 c8 ⊢;have S8:Same H2 G8:=S7.trans s8;walk_at "v";refine⟨by show 3≤sizeLine;decide,λt9 ht9=>?_⟩;have s9:=Same.new ht9 (HO.tup [.int 3,.str one,.int bb]);have c9:(upd G8 t9 (HO.tup [.int 3,.str one,.int bb])) t9=some (.tup [.int 3,.str one,.int bb]):=Z1;generalize upd G8 t9 (HO.tup [.int 3,.str one,.int bb])=G9 at s9 c9 ⊢;have S9:Same H2 G9:=S8.trans s9;walk_at "v";rw[show ((10:Int) ^ (6:Int).toNat)=1000000 from rfl];refine⟨by show 3≤sizeLine;decide,λt10 ht10=>?_⟩;have s10:=Same.new ht10 (HO.tup [.int 3,.str one,.int 1000000]);have c10:(upd G9 t10 (HO.tup [.int 3,.str one,.int 1000000])) t10=some (.tup [.int 3,.str one,.int 1000000]):=Z1;generalize upd G9 t10 (HO.tup [.int 3,.str one,.int 1000000])=G10 at s10 c10 ⊢;have S10:Same H2 G10:=S9.trans s10;walk_at "v";refine⟨by show 5≤sizeLine;decide,λqb hqb=>?_⟩;have sqb:=Same.new hqb (HO.lst [.ref t6,.ref t7,.ref t8,.ref t9,.ref t10]);have cqb:(upd G10 qb (HO.lst [.ref t6,.ref t7,.ref t8,.ref t9,.ref t10])) qb=some (.lst [.ref t6,.ref t7,.ref t8,.ref t9,.ref t10]):=Z1;generalize upd G10 qb (HO.lst [.ref t6,.ref t7,.ref t8,.ref t9,.ref t10])=Gqb at sqb cqb ⊢;have Sqb:Same H2 Gqb:=S10.trans sqb;have dqa:Gqb qa=some (.lst [.ref t0,.ref t1,.ref t2,.ref t3,.ref t4,.ref t5]):=(s6.trans (s7.trans (s8.trans (s9.trans (s10.trans sqb))))) _ _ cqa;refine⟨qa,qb,_,_,rfl,rfl,dqa,cqb,ZC (show 6 + 5≤1000 by decide),λqc hqc=>?_⟩;have sqc:=Same.new hqc (HO.lst [.ref t0,.ref t1,.ref t2,.ref t3,.ref t4,.ref t5,.ref t6,.ref t7,.ref t8,.ref t9,.ref t10]);have cqc:(upd Gqb qc (HO.lst [.ref t0,.ref t1,.ref t2,.ref t3,.ref t4,.ref t5,.ref t6,.ref t7,.ref t8,.ref t9,.ref t10])) qc=some (.lst [.ref t0,.ref t1,.ref t2,.ref t3,.ref t4,.ref t5,.ref t6,.ref t7,.ref t8,.ref t9,.ref t10]):=Z1
  change XF _ _ _ (upd Gqb qc (HO.lst [.ref t0,.ref t1,.ref t2,.ref t3,.ref t4,.ref t5,.ref t6,.ref t7,.ref t8,.ref t9,.ref t10])) _
  generalize upd Gqb qc (HO.lst [.ref t0,.ref t1,.ref t2,.ref t3,.ref t4,.ref t5,.ref t6,.ref t7,.ref t8,.ref t9,.ref t10])=Gqc at sqc cqc ⊢;have Sqc:Same H2 Gqc:=Sqb.trans sqc;walk_at "v";refine⟨by show 3≤sizeLine;decide,λt11 ht11=>?_⟩;have s11:=Same.new ht11 (HO.tup [.int 4,.str freshS,.int 0]);have c11:(upd Gqc t11 (HO.tup [.int 4,.str freshS,.int 0])) t11=some (.tup [.int 4,.str freshS,.int 0]):=Z1;generalize upd Gqc t11 (HO.tup [.int 4,.str freshS,.int 0])=G11 at s11 c11 ⊢;have S11:Same H2 G11:=Sqc.trans s11;walk_at "v";refine⟨by show 3≤sizeLine;decide,λt12 ht12=>?_⟩;have s12:=Same.new ht12 (HO.tup [.int 5,.str freshS,.int 0]);have c12:(upd G11 t12 (HO.tup [.int 5,.str freshS,.int 0])) t12=some (.tup [.int 5,.str freshS,.int 0]):=Z1;generalize upd G11 t12 (HO.tup [.int 5,.str freshS,.int 0])=G12 at s12 c12 ⊢;have S12:Same H2 G12:=S11.trans s12;walk_at "v";refine⟨by show 2≤sizeLine;decide,λqd hqd=>?_⟩;have sqd:=Same.new hqd (HO.lst [.ref t11,.ref t12]);have cqd:(upd G12 qd (HO.lst [.ref t11,.ref t12])) qd=some (.lst [.ref t11,.ref t12]):=Z1;generalize upd G12 qd (HO.lst [.ref t11,.ref t12])=Gqd at sqd cqd ⊢;have Sqd:Same H2 Gqd:=S12.trans sqd;have dqc:Gqd qc=some (.lst [.ref t0,.ref t1,.ref t2,.ref t3,.ref t4,.ref t5,.ref t6,.ref t7,.ref t8,.ref t9,.ref t10]):=(s11.trans (s12.trans sqd)) _ _ cqc;refine⟨qc,qd,_,_,rfl,rfl,dqc,cqd,ZC (show 11 + 2≤1000 by decide),λqe hqe=>?_⟩;have sqe:=Same.new hqe (HO.lst [.ref t0,.ref t1,.ref t2,.ref t3,.ref t4,.ref t5,.ref t6,.ref t7,.ref t8,.ref t9,.ref t10,.ref t11,.ref t12]);have cqe:(upd Gqd qe (HO.lst [.ref t0,.ref t1,.ref t2,.ref t3,.ref t4,.ref t5,.ref t6,.ref t7,.ref t8,.ref t9,.ref t10,.ref t11,.ref t12])) qe=some (.lst [.ref t0,.ref t1,.ref t2,.ref t3,.ref t4,.ref t5,.ref t6,.ref t7,.ref t8,.ref t9,.ref t10,.ref t11,.ref t12]):=Z1
  change XF _ _ _ (upd Gqd qe (HO.lst [.ref t0,.ref t1,.ref t2,.ref t3,.ref t4,.ref t5,.ref t6,.ref t7,.ref t8,.ref t9,.ref t10,.ref t11,.ref t12])) _
  generalize upd Gqd qe (HO.lst [.ref t0,.ref t1,.ref t2,.ref t3,.ref t4,.ref t5,.ref t6,.ref t7,.ref t8,.ref t9,.ref t10,.ref t11,.ref t12])=Gqe at sqe cqe ⊢;have Sqe:Same H2 Gqe:=Sqd.trans sqe;walk_at "v";have C0:=(s1.trans (s2.trans (s3.trans (s4.trans (s5.trans (sqa.trans (s6.trans (s7.trans (s8.trans (s9.trans (s10.trans (sqb.trans (sqc.trans (s11.trans (s12.trans (sqd.trans (sqe))))))))))))))))) _ _ c0;have C1:=(s2.trans (s3.trans (s4.trans (s5.trans (sqa.trans (s6.trans (s7.trans (s8.trans (s9.trans (s10.trans (sqb.trans (sqc.trans (s11.trans (s12.trans (sqd.trans (sqe)))))))))))))))) _ _ c1;have C2:=(s3.trans (s4.trans (s5.trans (sqa.trans (s6.trans (s7.trans (s8.trans (s9.trans (s10.trans (sqb.trans (sqc.trans (s11.trans (s12.trans (sqd.trans (sqe))))))))))))))) _ _ c2;have C3:=(s4.trans (s5.trans (sqa.trans (s6.trans (s7.trans (s8.trans (s9.trans (s10.trans (sqb.trans (sqc.trans (s11.trans (s12.trans (sqd.trans (sqe)))))))))))))) _ _ c3;have C4:=(s5.trans (sqa.trans (s6.trans (s7.trans (s8.trans (s9.trans (s10.trans (sqb.trans (sqc.trans (s11.trans (s12.trans (sqd.trans (sqe))))))))))))) _ _ c4;have C5:=(sqa.trans (s6.trans (s7.trans (s8.trans (s9.trans (s10.trans (sqb.trans (sqc.trans (s11.trans (s12.trans (sqd.trans (sqe)))))))))))) _ _ c5;have C6:=(s7.trans (s8.trans (s9.trans (s10.trans (sqb.trans (sqc.trans (s11.trans (s12.trans (sqd.trans (sqe)))))))))) _ _ c6;have C7:=(s8.trans (s9.trans (s10.trans (sqb.trans (sqc.trans (s11.trans (s12.trans (sqd.trans (sqe))))))))) _ _ c7;have C8:=(s9.trans (s10.trans (sqb.trans (sqc.trans (s11.trans (s12.trans (sqd.trans (sqe)))))))) _ _ c8;have C9:=(s10.trans (sqb.trans (sqc.trans (s11.trans (s12.trans (sqd.trans (sqe))))))) _ _ c9;have C10:=(sqb.trans (sqc.trans (s11.trans (s12.trans (sqd.trans (sqe)))))) _ _ c10;have C11:=(s12.trans (sqd.trans (sqe))) _ _ c11;have C12:=(sqd.trans (sqe)) _ _ c12;have Wq:=W9.more Sqe;clear W9 c0 c1 c2 c3 c4 c5 c6 c7 c8 c9 c10 c11 c12 s0 s1 s2 s3 s4 s5 s6 s7 s8 s9 s10 s11 s12 S0 S1 S2 S3 S4 S5 S6 S7 S8 S9 S10 S11 S12 ht0 ht1 ht2 ht3 ht4 ht5 ht6 ht7 ht8 ht9 ht10 ht11 ht12 sqa sqb sqc sqd sqe Sqa Sqb Sqc Sqd Sqe cqa cqb cqc cqd dqa dqc hqa hqb hqc hqd hqe;refine⟨by show 11≤sizeLine;decide,λda hda=>?_⟩;have sda:=Same.new hda (HO.lst [V.str "BadName",V.str "Taken",V.str "Full",V.str "BadName",V.str "Taken",V.str "Full",V.str "NoMan",V.str "BadDay",V.str "Full",V.str "Full",V.str "Full"]);have cda:(upd Gqe da (HO.lst [V.str "BadName",V.str "Taken",V.str "Full",V.str "BadName",V.str "Taken",V.str "Full",V.str "NoMan",V.str "BadDay",V.str "Full",V.str "Full",V.str "Full"])) da=some (.lst [V.str "BadName",V.str "Taken",V.str "Full",V.str "BadName",V.str "Taken",V.str "Full",V.str "NoMan",V.str "BadDay",V.str "Full",V.str "Full",V.str "Full"]):=Z1;generalize upd Gqe da (HO.lst [V.str "BadName",V.str "Taken",V.str "Full",V.str "BadName",V.str "Taken",V.str "Full",V.str "NoMan",V.str "BadDay",V.str "Full",V.str "Full",V.str "Full"])=Gda at sda cda ⊢;walk_at "v";refine⟨by show 2≤sizeLine;decide,λdb hdb=>?_⟩;have sdb:=Same.new hdb (HO.lst [V.str "NoSide",V.str "BadRank"]);have cdb:(upd Gda db (HO.lst [V.str "NoSide",V.str "BadRank"])) db=some (.lst [V.str "NoSide",V.str "BadRank"]):=Z1;generalize upd Gda db (HO.lst [V.str "NoSide",V.str "BadRank"])=Gdb at sdb cdb ⊢;refine⟨da,db,_,_,rfl,rfl,sdb _ _ cda,cdb,ZC (show 11 + 2≤1000 by decide),λdc hdc=>?_⟩;have sdc:=Same.new hdc (HO.lst (dueS40.map V.str));have cdc:(upd Gdb dc (HO.lst (dueS40.map V.str))) dc=some (.lst (dueS40.map V.str)):=Z1
  change XF _ _ _ (upd Gdb dc (HO.lst (dueS40.map V.str))) _
  generalize upd Gdb dc (HO.lst (dueS40.map V.str))=Gd at sdc cdc ⊢;have SD:Same Gqe Gd:=sda.trans (sdb.trans sdc);have Wr:=Wq.more SD;have cq:=SD _ _ cqe;have fts:AskAt Gd [t0,t1,t2,t3,t4,t5,t6,t7,t8,t9,t10,t11,t12] (Z5h z2 one bb):=λi hi=>by
   match i,hi with
   | 0,_=>exact⟨t0,_,_,_,rfl,SD _ _ C0,rfl⟩
   | 1,_=>exact⟨t1,_,_,_,rfl,SD _ _ C1,rfl⟩
   | 2,_=>exact⟨t2,_,_,_,rfl,SD _ _ C2,rfl⟩
   | 3,_=>exact⟨t3,_,_,_,rfl,SD _ _ C3,rfl⟩
   | 4,_=>exact⟨t4,_,_,_,rfl,SD _ _ C4,rfl⟩
   | 5,_=>exact⟨t5,_,_,_,rfl,SD _ _ C5,rfl⟩
   | 6,_=>exact⟨t6,_,_,_,rfl,SD _ _ C6,rfl⟩
   | 7,_=>exact⟨t7,_,_,_,rfl,SD _ _ C7,rfl⟩
   | 8,_=>exact⟨t8,_,_,_,rfl,SD _ _ C8,rfl⟩
   | 9,_=>exact⟨t9,_,_,_,rfl,SD _ _ C9,rfl⟩
   | 10,_=>exact⟨t10,_,_,_,rfl,SD _ _ C10,rfl⟩
   | 11,_=>exact⟨t11,_,_,_,rfl,SD _ _ C11,rfl⟩
   | 12,_=>exact⟨t12,_,_,_,rfl,SD _ _ C12,rfl⟩
  clear Wq C0 C1 C2 C3 C4 C5 C6 C7 C8 C9 C10 C11 C12 cda cdb sda sdb sdc hda hdb hdc cqe SD;walk_at "v";refine⟨tw,mn,_,_,rfl,rfl,Wr.ht,Wr.hm,ZC (by rw[List.length_map,List.length_map,F.lz,F.lm];decide),λpm hpm=>?_⟩;have spm:=Same.new hpm (HO.lst (zs.map V.str++ms.map V.str));refine⟨pm,(zs++ms).map V.str,rfl,.inl (SqL.of (by rw[Z1,List.map_append])),rfl,Z08 _,?_⟩;rw[if_neg (by decide),Z0G];have Ws:=Wr.more spm;have cq2:=spm _ _ cq;have cdc2:=spm _ _ cdc;have fts2:=fts.same spm;generalize upd Gd pm (HO.lst (zs.map V.str++ms.map V.str))=Ge at Ws cq2 cdc2 fts2 ⊢;clear Wr cq cdc fts spm hpm;walk_at "v"
  by_cases hf:freshS∈zs++ms
  ·refine Y1 (by rw[decide_eq_true hf]) ?_;walk_at "v";exact k _
  refine Zt (by rw[decide_eq_false hf];decide) ?_;have f1:¬ freshS∈zs:=λz=>hf (List.mem_append_left _ z);have f2:¬ freshS∈ms:=λz=>hf (List.mem_append_right _ z);walk_at "v";obtain⟨x0,hx0,hx1⟩:=Z4q (zs:=zs) (by rw[F.lz];decide);have ho:=List.mem_of_getElem? eo;have hz2:=List.mem_of_getElem? e2;have lD:D2.length=120:=by omega
  refine⟨_,rfl,qe,rfl,⟨_,SqL.of cq2⟩,λfd hfd=>?_⟩;refine JL 13 (λi ys τ Hx=>Same Ge Hx∧Hx fd=some (.lst ys)∧ys=(dueS40.take i).map V.str∧∃ v0 v1 v2,τ=[v0,v1,v2,some (.ref bk)]) ⟨Same.new hfd _,Z1,rfl,none,none,none,rfl⟩ (λi ys τ Hx _ q=>q.2.1) ?_ ?_
  ·rintro i ys τ Hx hi ⟨sm,hDz,rfl,v0,v1,v2,rfl⟩;obtain⟨t,wy,nm,day,q1,q2,q3⟩:=fts2 i hi;obtain⟨j,j1,j2,j3,j4⟩:=Z7s (D:=D2) (nx:=81 + ((40:Nat):Int)) F lD b0 b1 hx1 ho hz2 f1 f2 hi q3;have et:([t0,t1,t2,t3,t4,t5,t6,t7,t8,t9,t10,t11,t12].map V.ref)[i]? = some (.ref t):=by rw[List.getElem?_map,q1];rfl
   refine⟨⟨_,.ref t,SqL.of (sm _ _ cq2),et⟩,ZR (by rw[List.length_map,List.length_take];omega),?_⟩;rintro x' H3 ⟨rfl,hx⟩;obtain rfl:x'=V.ref t:=by
    have:=hx _ (SqL.of (sm _ _ cq2));exact (Option.some.inj (et.symm.trans this)).symm
   refine⟨t,_,rfl,SqT.of (sm _ _ q2),rfl,_,[.str nm,.int day],rfl,_,[.int day],rfl,_,[],rfl,rfl,?_⟩;walk_at "v";refine⟨bk,pa,sn',dl2,_,_,j,x0,nm,wy,day,rfl,(Ws.more sm).book,by decide,by show zs.length < 64;rw[F.lz];decide,hx0,F.nd,by rw[Yf];decide,j4,j1,j2,λH4 s4=>?_⟩;refine⟨s4 _ _ hDz,Jd (sm.trans s4) hfd,Z1,?_,_,_,_,rfl⟩;rw[Z02 j3,List.map_append];rfl
  rintro ys τ Hf ⟨s3,hDz,rfl,v0,v1,v2,rfl⟩;refine⟨⟨_,SqL.of (s3 _ _ cq2),Nat.le_refl 13⟩,?_⟩;have Wf:=Ws.more s3;have cd3:=s3 _ _ cdc2;clear Ws cq2 cdc2 fts2 s3;walk_at "v";have shp:SeqAt.shaped (.list (dueS40.map PyData.str))=true:=by decide +kernel
  refine⟨.list (dueS40.map PyData.str),.list (dueS40.map PyData.str),.lst hDz (ZR (by decide)) (Reps.strs _),.lst cd3 (ZR (by decide)) (Reps.strs _),shp,shp,?_⟩;walk_at "v";refine Zt (by rw[show PyData.eqv (.list (dueS40.map PyData.str)) (.list (dueS40.map PyData.str))=true by decide +kernel];decide) ?_;walk_at "v";obtain⟨dxf,pgf,fuf,psf,hf0,_⟩:=id Wf.book;refine⟨bk,dxf,_,rfl,hf0,rfl,?_⟩;walk_at "v";refine⟨bk,pa,sn',dl2,_,_,rfl,Wf.book,by show (ZU zs ms 40).length < 64;rw[Yf];decide,F.nd,λpe He hpe se re=>?_⟩;obtain⟨xe,hxe,lxe⟩:=Z5T re;have le:xe.length=40:=by
   rw[lxe];show (Z3P (ZU zs ms 40)).length=40;unfold Z3P;rw[List.length_map,W.sortP_length,Yf]
  walk_at "v";refine⟨pe,xe,rfl,.inl (SqL.of hxe),?_⟩;rw[le];walk_at "v";refine Zt (by decide) ?_;have Wg:=Wf.more se;clear Wf re hxe lxe le;walk_at "v";refine⟨bk,dxf,_,rfl,se _ _ hf0,rfl,?_⟩;walk_at "v";refine⟨bk,pa,sn',dl2,_,_,rfl,Wg.book,by show zs.length < 64;rw[F.lz];decide,λpf hpf=>?_⟩;have sf:=Same.new hpf (HO.lst ((Yg zs).map V.str));have lf:((Yg zs).map V.str).length=6:=by
   rw[List.length_map];unfold Yg;rw[List.length_map,W.sortP_length,F.lz]
  walk_at "v";refine⟨pf,_,rfl,.inl (SqL.of Z1),?_⟩;rw[lf];walk_at "v";refine Zt (by decide) ?_;have Wh:=Wg.more sf;generalize upd He pf (HO.lst ((Yg zs).map V.str))=Hh at Wh ⊢;clear Wg sf hpf lf hf0 se;walk_at "v";refine⟨b,l,ns,40,rfl,Wh.box,by decide,by decide,λrt Hi rt0 rt1 Bi ki _=>?_⟩;have Wi:=Wh.take Bi ki;clear Wh Bi ki;obtain⟨tt,rfl⟩:∃ tt:Nat,rt=(tt:Int):=⟨rt.toNat,by omega⟩;have ltt:tt < 40:=by omega
  walk_at "v";obtain⟨dxi,pgi,fui,psi,hi0,_⟩:=id Wi.book;refine⟨bk,dxi,_,rfl,hi0,rfl,?_⟩;walk_at "v";refine Z3b Wi.book (by decide) F K7 lD ltt (λi hi=>if_pos hi) λdl3 Hj D3 _ B3 kp3 K3 l3=>?_;have Wj:=Wi.step B3 kp3;clear Wi B3 kp3 hi0;walk_at "v";refine⟨rfl,_,rfl,?_⟩;refine Zt (by decide) ?_;walk_at "v";obtain⟨dxj,pgj,fuj,psj,hj0,_⟩:=id Wj.book;refine⟨bk,dxj,_,rfl,hj0,rfl,?_⟩;walk_at "v";refine⟨bk,pa,sn',dl3,_,_,rfl,Wj.book,λpk Hk sk hpk dk=>?_⟩;obtain⟨ek,k1,k2,_⟩:=dk;have lk:(ek.map V.ref).length=119:=by rw[List.length_map,k2];exact l3
  walk_at "v";refine⟨pk,_,rfl,.inl (SqL.of k1),?_⟩;rw[lk];walk_at "v";refine Zt (by decide) ?_;have Wk2:=Wj.more sk;clear Wj k1 k2 lk hpk;walk_at "v";refine⟨bk,dxj,_,rfl,sk _ _ hj0,rfl,?_⟩;walk_at "v";have em:=ZW (zs:=ms) (i:=(tt + 1) % 40) (by rw[F.lm];omega);have es:=ZW (zs:=zs) (i:=((tt + 1) % 40 + 1) % 6) (by rw[F.lz];omega);have e4:((81:Int) + (tt:Int) - 80) % 40=(((tt + 1) % 40:Nat):Int):=by omega
  rw[e4];refine Zx (SqL.of Wk2.hm) (v:=.str (ms.getD ((tt + 1) % 40) "")) (ZG (by rw[List.getElem?_map,em];rfl)) ?_;walk_at "v";have st3:Yu (stB 40) tt 2 ((tt + 1) % 40)=3:=by
   unfold Yu;rw[if_neg (by omega)];exact if_pos (by omega)
  refine⟨bk,pa,sn',dl3,_,_,bb + 99,_,rfl,tell_step (i:=(tt + 1) % 40) Wk2.book (by decide) F b0 b1 K3 (by omega) em es 3 st3 (by decide) rfl (by show bb + 99≤bb + 99;omega) (by show bb + 99 < bb + 100;omega) (by show (81:Int) + ((40:Nat):Int)=121;decide) λdl4 Hl D4 _ B4 kp4 K4 l4=>?_⟩;have Wl:=Wk2.step B4 kp4;clear Wk2 B4 kp4 hj0 sk;walk_at "v";refine Zt (by decide) ?_;walk_at "v";have l120:D4.length=120:=by omega
  have due:=(Z4M (D:=D4) (nx:=81 + ((40:Nat):Int) + 1) F l120 b0 b1 hx1 ho hz2 f1 f2).2.2.2.2.2.2.2.2.2.2.1;rw[show ((10:Int) ^ (6:Int).toNat)=1000000 from rfl];refine⟨bk,pa,sn',dl4,_,_,2,x0,one,3,1000000,rfl,Wl.book,by decide,by show zs.length < 64;rw[F.lz];decide,hx0,F.nd,by rw[Yf];decide,Nat.le_trans (F.nm o _ eo).size (by decide),due,by decide,λHm sm=>?_⟩;have Wm:=Wl.more sm;clear Wl sm;walk_at "v";refine⟨rfl,?_⟩;walk_at "v";refine Y1 (decide_eq_true rfl) ?_;walk_at "v";obtain⟨dxm,pgm,fum,psm,hm0,_⟩:=id Wm.book;refine⟨bk,dxm,_,rfl,hm0,rfl,?_⟩;walk_at "v";refine⟨bk,pa,sn',dl4,_,_,rfl,Wm.book,λpn Hn sn2 hpn dn=>?_⟩;obtain⟨en,n1,n2,_⟩:=dn;have ln:(en.map V.ref).length=120:=by rw[List.length_map,n2];exact l120
  walk_at "v";refine⟨pn,_,rfl,.inl (SqL.of n1),?_⟩;rw[ln];walk_at "v";exact k _
end
theorem all_mk {l:W.OpenLaw}{w:World}{K:W.Frag}{h:Heap}{mg:Str→Option Value}{fa f1 f2 f3 f4 f5 f6 f7 f8 f9 f10 f11 f12 f13 f14 f15 f16 f17 f18 f19 f20 f21 f22 f23 f24 f25 f26 f27 f28 f29 f30 f31 f32 f33 f34 f35 f36 f37 f38 f39 f40 f41 f42 f43 f44 f45 f46 f47 f48 f49 f50 f51 f52 f53:Addr}(X:K.In h)(G:h.Ns mainGlobals mg)(hfa:mg "law" = some (.ref fa))
 {D1 N1 D2 N2 D3 N3 D4 N4 D5 N5 D6 N6 D7 N7 D8 N8 D9 N9 D10 N10 D11 N11 D12 N12 D13 N13 D14 N14 D15 N15 D16 N16 D17 N17 D18 N18 D19 N19 D20 N20 D21 N21 D22 N22 D23 N23 D24 N24 D25 N25 D26 N26 D27 N27 D28 N28 D29 N29 D30 N30 D31 N31 D32 N32 D33 N33 D34 N34 D35 N35 D36 N36 D37 N37 D38 N38 D39 N39 D40 N40 D41 N41 D42 N42 D43 N43 D44 N44 D45 N45 D46 N46 D47 N47 D48 N48 D49 N49 D50 N50 D51 N51 D52 N52 D53 N53:Option Addr}{S1 S2 S3 S4 S5 S6 S7 S8 S9 S10 S11 S12 S13 S14 S15 S16 S17 S18 S19 S20 S21 S22 S23 S24 S25 S26 S27 S28 S29 S30 S31 S32 S33 S34 S35 S36 S37 S38 S39 S40 S41 S42 S43 S44 S45 S46 S47 S48 S49 S50 S51 S52 S53:Array (Option Value)}{O1 V1 E1 P1 Q1 T1 O2 V2 E2 P2 Q2 T2 O3 V3 E3 P3 Q3 T3 O4 V4 E4 P4 Q4 T4 O5 V5 E5 P5 Q5 T5 O6 V6 E6 P6 Q6 T6 O7 V7 E7 P7 Q7 T7 O8 V8 E8 P8 Q8 T8 O9 V9 E9 P9 Q9 T9 O10 V10 E10 P10 Q10 T10 O11 V11 E11 P11 Q11 T11 O12 V12 E12 P12 Q12 T12 O13 V13 E13 P13 Q13 T13 O14 V14 E14 P14 Q14 T14 O15 V15 E15 P15 Q15 T15 O16 V16 E16 P16 Q16 T16 O17 V17 E17 P17 Q17 T17 O18 V18 E18 P18 Q18 T18 O19 V19 E19 P19 Q19 T19 O20 V20 E20 P20 Q20 T20 O21 V21 E21 P21 Q21 T21 O22 V22 E22 P22 Q22 T22 O23 V23 E23 P23 Q23 T23 O24 V24 E24 P24 Q24 T24 O25 V25 E25 P25 Q25 T25 O26 V26 E26 P26 Q26 T26 O27 V27 E27 P27 Q27 T27 O28 V28 E28 P28 Q28 T28 O29 V29 E29 P29 Q29 T29 O30 V30 E30 P30 Q30 T30 O31 V31 E31 P31 Q31 T31 O32 V32 E32 P32 Q32 T32 O33 V33 E33 P33 Q33 T33 O34 V34 E34 P34 Q34 T34 O35 V35 E35 P35 Q35 T35 O36 V36 E36 P36 Q36 T36 O37 V37 E37 P37 Q37 T37 O38 V38 E38 P38 Q38 T38 O39 V39 E39 P39 Q39 T39 O40 V40 E40 P40 Q40 T40 O41 V41 E41 P41 Q41 T41 O42 V42 E42 P42 Q42 T42 O43 V43 E43 P43 Q43 T43 O44 V44 E44 P44 Q44 T44 O45 V45 E45 P45 Q45 T45 O46 V46 E46 P46 Q46 T46 O47 V47 E47 P47 Q47 T47 O48 V48 E48 P48 Q48 T48 O49 V49 E49 P49 Q49 T49 O50 V50 E50 P50 Q50 T50 O51 V51 E51 P51 Q51 T51 O52 V52 E52 P52 Q52 T52 O53 V53 E53 P53 Q53 T53:Value}
 {Z9e:Addr}{dt0_DOINGS dt1_DOINGS dt2_DOINGS dt3_DOINGS dt4_DOINGS dt5_DOINGS dt6_DOINGS:Tok}{ep_DOINGS:Nat}
 {tk_NO_NUMBER:Tok}
 {tk_LAST_DAY:Tok}
 {tk_MOST_DEEDS:Tok}
 {tk_MOST_MEN:Tok}
 {tk_MOST_SIDES:Tok}
 {tk_MOST_LETTERS:Tok}
 {tk_LETTERS:Tok}
 {tk_MOST_RANKS:Tok}
 {Z93:Addr}
 {Z98:Addr}
 {Z97:Addr}
 {Z9o:Addr}
 {Z9d:Addr}
 {Z9s:Addr}
 {Z9t:Addr}
 {Z9l:Addr}
 {Z9m:Addr}
 {Z9F:Addr}
 {Z9H:Addr}
 {Z9x:Addr}
 {Z9z:Addr}
 {Z9g:Addr}
 {Z9q:Addr}
 {Z9f:Addr}
 {Z9c:Addr}
 {Za1:Addr}
 {Z9j:Addr}
 {Z9w:Addr}
 {Z9p:Addr}
 {Z9B:Addr}
 {Z9u:Addr}
 {Z9h:Addr}
 {Z92:Addr}
 (mc_CartelError:W.nsIn K mainGlobals "CartelError" = some (some (.ref Z92)))
 (mc_BadName:W.nsIn K mainGlobals "BadName" = some (some (.ref Z9h)))
 (mc_Taken:W.nsIn K mainGlobals "Taken" = some (some (.ref Z9u)))
 (mc_Full:W.nsIn K mainGlobals "Full" = some (some (.ref Z9B)))
 (mc_NoSide:W.nsIn K mainGlobals "NoSide" = some (some (.ref Z9p)))
 (mc_NoMan:W.nsIn K mainGlobals "NoMan" = some (some (.ref Z9w)))
 (mc_BadRank:W.nsIn K mainGlobals "BadRank" = some (some (.ref Z9j)))
 (mc_Own:W.nsIn K mainGlobals "Own" = some (some (.ref Za1)))
 (mc_BadTariff:W.nsIn K mainGlobals "BadTariff" = some (some (.ref Z9c)))
 (mc_BadLimit:W.nsIn K mainGlobals "BadLimit" = some (some (.ref Z9f)))
 (mc_BadDay:W.nsIn K mainGlobals "BadDay" = some (some (.ref Z9q)))
 (mc_NoCartel:W.nsIn K mainGlobals "NoCartel" = some (some (.ref Z9g)))
 (mc_NoMen:W.nsIn K mainGlobals "NoMen" = some (some (.ref Z9z)))
 (mc_Twice:W.nsIn K mainGlobals "Twice" = some (some (.ref Z9x)))
 (mc_Gone:W.nsIn K mainGlobals "Gone" = some (some (.ref Z9H)))
 (mc_Held:W.nsIn K mainGlobals "Held" = some (some (.ref Z9F)))
 (mc_NotHeld:W.nsIn K mainGlobals "NotHeld" = some (some (.ref Z9m)))
 (mc_OffRoll:W.nsIn K mainGlobals "OffRoll" = some (some (.ref Z9l)))
 (mc_Uneven:W.nsIn K mainGlobals "Uneven" = some (some (.ref Z9t)))
 (mc_NoDeed:W.nsIn K mainGlobals "NoDeed" = some (some (.ref Z9s)))
 (mc_Breaks:W.nsIn K mainGlobals "Breaks" = some (some (.ref Z9d)))
 (mc_Man:W.nsIn K mainGlobals "Man" = some (some (.ref Z9o)))
 (mc_Muster:W.nsIn K mainGlobals "Muster" = some (some (.ref Z97)))
 (mc_Page:W.nsIn K mainGlobals "Page" = some (some (.ref Z98)))
 (mc_Book:W.nsIn K mainGlobals "Book" = some (some (.ref Z93)))
 (a1:W.nsIn K mainGlobals "holder_of" = some (some (.ref f1))) (l1:K.lookup f1=some ⟨O1,D1,.func (W.fnOf "holder_of" "holder_of" (Za ZN) (Z9 ZN) (Z3 ZN) .none V1 E1 P1 N1 Q1 T1),S1⟩) (c1:W.codeIn K Q1 "holder_of" = true) (k1:W.keepIn K (.ref f1)=true)
 (a2:W.nsIn K mainGlobals "need_alive" = some (some (.ref f2))) (l2:K.lookup f2=some ⟨O2,D2,.func (W.fnOf "need_alive" "need_alive" (Za Yr) (Z9 Yr) (Z3 Yr) .none V2 E2 P2 N2 Q2 T2),S2⟩) (c2:W.codeIn K Q2 "need_alive" = true) (k2:W.keepIn K (.ref f2)=true)
 (a3:W.nsIn K mainGlobals "need_held" = some (some (.ref f3))) (l3:K.lookup f3=some ⟨O3,D3,.func (W.fnOf "need_held" "need_held" (Za YO) (Z9 YO) (Z3 YO) .none V3 E3 P3 N3 Q3 T3),S3⟩) (c3:W.codeIn K Q3 "need_held" = true) (k3:W.keepIn K (.ref f3)=true)
 (a4:W.nsIn K mainGlobals "take_man" = some (some (.ref f4))) (l4:K.lookup f4=some ⟨O4,D4,.func (W.fnOf "take_man" "take_man" (Za X5) (Z9 X5) (Z3 X5) .none V4 E4 P4 N4 Q4 T4),S4⟩) (c4:W.codeIn K Q4 "take_man" = true) (k4:W.keepIn K (.ref f4)=true)
 (a5:W.nsIn K mainGlobals "send_on_word" = some (some (.ref f5))) (l5:K.lookup f5=some ⟨O5,D5,.func (W.fnOf "send_on_word" "send_on_word" (Za Yd) (Z9 Yd) (Z3 Yd) .none V5 E5 P5 N5 Q5 T5),S5⟩) (c5:W.codeIn K Q5 "send_on_word" = true) (k5:W.keepIn K (.ref f5)=true)
 (a6:W.nsIn K mainGlobals "send_home" = some (some (.ref f6))) (l6:K.lookup f6=some ⟨O6,D6,.func (W.fnOf "send_home" "send_home" (Za YJ) (Z9 YJ) (Z3 YJ) .none V6 E6 P6 N6 Q6 T6),S6⟩) (c6:W.codeIn K Q6 "send_home" = true) (k6:W.keepIn K (.ref f6)=true)
 (a7:W.nsIn K mainGlobals "give_rank" = some (some (.ref f7))) (l7:K.lookup f7=some ⟨O7,D7,.func (W.fnOf "give_rank" "give_rank" (Za Xb) (Z9 Xb) (Z3 Xb) .none V7 E7 P7 N7 Q7 T7),S7⟩) (c7:W.codeIn K Q7 "give_rank" = true) (k7:W.keepIn K (.ref f7)=true)
 (a8:W.nsIn K mainGlobals "let_die" = some (some (.ref f8))) (l8:K.lookup f8=some ⟨O8,D8,.func (W.fnOf "let_die" "let_die" (Za XL) (Z9 XL) (Z3 XL) .none V8 E8 P8 N8 Q8 T8),S8⟩) (c8:W.codeIn K Q8 "let_die" = true) (k8:W.keepIn K (.ref f8)=true)
 (a9:W.nsIn K mainGlobals "exchange" = some (some (.ref f9))) (l9:K.lookup f9=some ⟨O9,D9,.func (W.fnOf "exchange" "exchange" (Za Xr) (Z9 Xr) (Z3 Xr) .none V9 E9 P9 N9 Q9 T9),S9⟩) (c9:W.codeIn K Q9 "exchange" = true) (k9:W.keepIn K (.ref f9)=true)
 (a10:W.nsIn K mainGlobals "do_deed" = some (some (.ref f10))) (l10:K.lookup f10=some ⟨O10,D10,.func (W.fnOf "do_deed" "do_deed" (Za Xm) (Z9 Xm) (Z3 Xm) .none V10 E10 P10 N10 Q10 T10),S10⟩) (c10:W.codeIn K Q10 "do_deed" = true) (k10:W.keepIn K (.ref f10)=true)
 (a11:W.nsIn K mainGlobals "all_among" = some (some (.ref f11))) (l11:K.lookup f11=some ⟨O11,D11,.func (W.fnOf "all_among" "all_among" (Za Yo) (Z9 Yo) (Z3 Yo) .none V11 E11 P11 N11 Q11 T11),S11⟩) (c11:W.codeIn K Q11 "all_among" = true) (k11:W.keepIn K (.ref f11)=true)
 (a12:W.nsIn K mainGlobals "good_name" = some (some (.ref f12))) (l12:K.lookup f12=some ⟨O12,D12,.func (W.fnOf "good_name" "good_name" (Za YM) (Z9 YM) (Z3 YM) .none V12 E12 P12 N12 Q12 T12),S12⟩) (c12:W.codeIn K Q12 "good_name" = true) (k12:W.keepIn K (.ref f12)=true)
 (a13:W.nsIn K mainGlobals "empty_page" = some (some (.ref f13))) (l13:K.lookup f13=some ⟨O13,D13,.func (W.fnOf "empty_page" "empty_page" (Za Yw) (Z9 Yw) (Z3 Yw) .none V13 E13 P13 N13 Q13 T13),S13⟩) (c13:W.codeIn K Q13 "empty_page" = true) (k13:W.keepIn K (.ref f13)=true)
 (a14:W.nsIn K mainGlobals "need_side" = some (some (.ref f14))) (l14:K.lookup f14=some ⟨O14,D14,.func (W.fnOf "need_side" "need_side" (Za YI) (Z9 YI) (Z3 YI) .none V14 E14 P14 N14 Q14 T14),S14⟩) (c14:W.codeIn K Q14 "need_side" = true) (k14:W.keepIn K (.ref f14)=true)
 (a15:W.nsIn K mainGlobals "need_man" = some (some (.ref f15))) (l15:K.lookup f15=some ⟨O15,D15,.func (W.fnOf "need_man" "need_man" (Za X4) (Z9 X4) (Z3 X4) .none V15 E15 P15 N15 Q15 T15),S15⟩) (c15:W.codeIn K Q15 "need_man" = true) (k15:W.keepIn K (.ref f15)=true)
 (a16:W.nsIn K mainGlobals "need_rank" = some (some (.ref f16))) (l16:K.lookup f16=some ⟨O16,D16,.func (W.fnOf "need_rank" "need_rank" (Za YU) (Z9 YU) (Z3 YU) .none V16 E16 P16 N16 Q16 T16),S16⟩) (c16:W.codeIn K Q16 "need_rank" = true) (k16:W.keepIn K (.ref f16)=true)
 (a17:W.nsIn K mainGlobals "need_day" = some (some (.ref f17))) (l17:K.lookup f17=some ⟨O17,D17,.func (W.fnOf "need_day" "need_day" (Za X8) (Z9 X8) (Z3 X8) .none V17 E17 P17 N17 Q17 T17),S17⟩) (c17:W.codeIn K Q17 "need_day" = true) (k17:W.keepIn K (.ref f17)=true)
 (a18:W.nsIn K mainGlobals "need_new_name" = some (some (.ref f18))) (l18:K.lookup f18=some ⟨O18,D18,.func (W.fnOf "need_new_name" "need_new_name" (Za Y5) (Z9 Y5) (Z3 Y5) .none V18 E18 P18 N18 Q18 T18),S18⟩) (c18:W.codeIn K Q18 "need_new_name" = true) (k18:W.keepIn K (.ref f18)=true)
 (a19:W.nsIn K mainGlobals "need_room" = some (some (.ref f19))) (l19:K.lookup f19=some ⟨O19,D19,.func (W.fnOf "need_room" "need_room" (Za YQ) (Z9 YQ) (Z3 YQ) .none V19 E19 P19 N19 Q19 T19),S19⟩) (c19:W.codeIn K Q19 "need_room" = true) (k19:W.keepIn K (.ref f19)=true)
 (a20:W.nsIn K mainGlobals "need_deed" = some (some (.ref f20))) (l20:K.lookup f20=some ⟨O20,D20,.func (W.fnOf "need_deed" "need_deed" (Za Yp) (Z9 Yp) (Z3 Yp) .none V20 E20 P20 N20 Q20 T20),S20⟩) (c20:W.codeIn K Q20 "need_deed" = true) (k20:W.keepIn K (.ref f20)=true)
 (a21:W.nsIn K mainGlobals "need_names" = some (some (.ref f21))) (l21:K.lookup f21=some ⟨O21,D21,.func (W.fnOf "need_names" "need_names" (Za Yq) (Z9 Yq) (Z3 Yq) .none V21 E21 P21 N21 Q21 T21),S21⟩) (c21:W.codeIn K Q21 "need_names" = true) (k21:W.keepIn K (.ref f21)=true)
 (a22:W.nsIn K mainGlobals "do_or_break" = some (some (.ref f22))) (l22:K.lookup f22=some ⟨O22,D22,.func (W.fnOf "do_or_break" "do_or_break" (Za Yl) (Z9 Yl) (Z3 Yl) .none V22 E22 P22 N22 Q22 T22),S22⟩) (c22:W.codeIn K Q22 "do_or_break" = true) (k22:W.keepIn K (.ref f22)=true)
 (a23:W.nsIn K mainGlobals "need_all_let" = some (some (.ref f23))) (l23:K.lookup f23=some ⟨O23,D23,.func (W.fnOf "need_all_let" "need_all_let" (Za Yb) (Z9 Yb) (Z3 Yb) .none V23 E23 P23 N23 Q23 T23),S23⟩) (c23:W.codeIn K Q23 "need_all_let" = true) (k23:W.keepIn K (.ref f23)=true)
 (a24:W.nsIn K mainGlobals "place_of_deed" = some (some (.ref f24))) (l24:K.lookup f24=some ⟨O24,D24,.func (W.fnOf "place_of_deed" "place_of_deed" (Za Y4) (Z9 Y4) (Z3 Y4) .none V24 E24 P24 N24 Q24 T24),S24⟩) (c24:W.codeIn K Q24 "place_of_deed" = true) (k24:W.keepIn K (.ref f24)=true)
 (a25:W.nsIn K mainGlobals "with_deeds" = some (some (.ref f25))) (l25:K.lookup f25=some ⟨O25,D25,.func (W.fnOf "with_deeds" "with_deeds" (Za Yv) (Z9 Yv) (Z3 Yv) .none V25 E25 P25 N25 Q25 T25),S25⟩) (c25:W.codeIn K Q25 "with_deeds" = true) (k25:W.keepIn K (.ref f25)=true)
 (a26:W.nsIn K mainGlobals "with_side" = some (some (.ref f26))) (l26:K.lookup f26=some ⟨O26,D26,.func (W.fnOf "with_side" "with_side" (Za YH) (Z9 YH) (Z3 YH) .none V26 E26 P26 N26 Q26 T26),S26⟩) (c26:W.codeIn K Q26 "with_side" = true) (k26:W.keepIn K (.ref f26)=true)
 (a27:W.nsIn K mainGlobals "with_man" = some (some (.ref f27))) (l27:K.lookup f27=some ⟨O27,D27,.func (W.fnOf "with_man" "with_man" (Za X3) (Z9 X3) (Z3 X3) .none V27 E27 P27 N27 Q27 T27),S27⟩) (c27:W.codeIn K Q27 "with_man" = true) (k27:W.keepIn K (.ref f27)=true)
 (a28:W.nsIn K mainGlobals "with_deed" = some (some (.ref f28))) (l28:K.lookup f28=some ⟨O28,D28,.func (W.fnOf "with_deed" "with_deed" (Za YL) (Z9 YL) (Z3 YL) .none V28 E28 P28 N28 Q28 T28),S28⟩) (c28:W.codeIn K Q28 "with_deed" = true) (k28:W.keepIn K (.ref f28)=true)
 (a29:W.nsIn K mainGlobals "without_deed" = some (some (.ref f29))) (l29:K.lookup f29=some ⟨O29,D29,.func (W.fnOf "without_deed" "without_deed" (Za ZX) (Z9 ZX) (Z3 ZX) .none V29 E29 P29 N29 Q29 T29),S29⟩) (c29:W.codeIn K Q29 "without_deed" = true) (k29:W.keepIn K (.ref f29)=true)
 (a30:W.nsIn K mainGlobals "_law_box" = some (some (.ref f30))) (l30:K.lookup f30=some ⟨O30,D30,.func (W.fnOf "_law_box" "_law_box" (Za Jr) (Z9 Jr) (Z3 Jr) .none V30 E30 P30 N30 Q30 T30),S30⟩) (c30:W.codeIn K Q30 "_law_box" = true) (k30:W.keepIn K (.ref f30)=true)
 (a31:W.nsIn K mainGlobals "_law_mixed" = some (some (.ref f31))) (l31:K.lookup f31=some ⟨O31,D31,.func (W.fnOf "_law_mixed" "_law_mixed" (Za Xx) (Z9 Xx) (Z3 Xx) .none V31 E31 P31 N31 Q31 T31),S31⟩) (c31:W.codeIn K Q31 "_law_mixed" = true) (k31:W.keepIn K (.ref f31)=true)
 (a32:W.nsIn K mainGlobals "_law_take" = some (some (.ref f32))) (l32:K.lookup f32=some ⟨O32,D32,.func (W.fnOf "_law_take" "_law_take" (Za J8) (Z9 J8) (Z3 J8) .none V32 E32 P32 N32 Q32 T32),S32⟩) (c32:W.codeIn K Q32 "_law_take" = true) (k32:W.keepIn K (.ref f32)=true)
 (a33:W.nsIn K mainGlobals "_law_named" = some (some (.ref f33))) (l33:K.lookup f33=some ⟨O33,D33,.func (W.fnOf "_law_named" "_law_named" (Za Xf) (Z9 Xf) (Z3 Xf) .none V33 E33 P33 N33 Q33 T33),S33⟩) (c33:W.codeIn K Q33 "_law_named" = true) (k33:W.keepIn K (.ref f33)=true)
 (a34:W.nsIn K mainGlobals "_law_called" = some (some (.ref f34))) (l34:K.lookup f34=some ⟨O34,D34,.func (W.fnOf "_law_called" "_law_called" (Za Xn) (Z9 Xn) (Z3 Xn) .none V34 E34 P34 N34 Q34 T34),S34⟩) (c34:W.codeIn K Q34 "_law_called" = true) (k34:W.keepIn K (.ref f34)=true)
 (a35:W.nsIn K mainGlobals "_law_many_names" = some (some (.ref f35))) (l35:K.lookup f35=some ⟨O35,D35,.func (W.fnOf "_law_many_names" "_law_many_names" (Za Y7) (Z9 Y7) (Z3 Y7) .none V35 E35 P35 N35 Q35 T35),S35⟩) (c35:W.codeIn K Q35 "_law_many_names" = true) (k35:W.keepIn K (.ref f35)=true)
 (a36:W.nsIn K mainGlobals "_law_more" = some (some (.ref f36))) (l36:K.lookup f36=some ⟨O36,D36,.func (W.fnOf "_law_more" "_law_more" (Za J7) (Z9 J7) (Z3 J7) .none V36 E36 P36 N36 Q36 T36),S36⟩) (c36:W.codeIn K Q36 "_law_more" = true) (k36:W.keepIn K (.ref f36)=true)
 (a37:W.nsIn K mainGlobals "law" = some (some (.ref f37))) (l37:K.lookup f37=some ⟨O37,D37,.func (W.fnOf "law" "law" (Za Jk) (Z9 Jk) (Z3 Jk) .none V37 E37 P37 N37 Q37 T37),S37⟩) (c37:W.codeIn K Q37 "law" = true) (k37:W.keepIn K (.ref f37)=true)
 (a38:W.findIn K (.ref Z9o) "__init__" = some (some (.ref f38))) (l38:K.lookup f38=some ⟨O38,D38,.func (W.fnOf "__init__" "Man.__init__" (Za X6) (Z9 X6) (Z3 X6) .none V38 E38 P38 N38 Q38 T38),S38⟩) (c38:W.codeIn K Q38 "Man.__init__" = true) (k38:W.keepIn K (.ref f38)=true)
 (fn38:W.isFn K (.ref f38)=true)
 (a39:W.findIn K (.ref Z97) "__init__" = some (some (.ref f39))) (l39:K.lookup f39=some ⟨O39,D39,.func (W.fnOf "__init__" "Muster.__init__" (Za Yk) (Z9 Yk) (Z3 Yk) .none V39 E39 P39 N39 Q39 T39),S39⟩) (c39:W.codeIn K Q39 "Muster.__init__" = true) (k39:W.keepIn K (.ref f39)=true)
 (fn39:W.isFn K (.ref f39)=true)
 (a40:W.findIn K (.ref Z98) "__init__" = some (some (.ref f40))) (l40:K.lookup f40=some ⟨O40,D40,.func (W.fnOf "__init__" "Page.__init__" (Za YV) (Z9 YV) (Z3 YV) .none V40 E40 P40 N40 Q40 T40),S40⟩) (c40:W.codeIn K Q40 "Page.__init__" = true) (k40:W.keepIn K (.ref f40)=true)
 (fn40:W.isFn K (.ref f40)=true)
 (a41:W.findIn K (.ref Z9d) "__init__" = some (some (.ref f41))) (l41:K.lookup f41=some ⟨O41,D41,.func (W.fnOf "__init__" "Breaks.__init__" (Za YC) (Z9 YC) (Z3 YC) .none V41 E41 P41 N41 Q41 T41),S41⟩) (c41:W.codeIn K Q41 "Breaks.__init__" = true) (k41:W.keepIn K (.ref f41)=true)
 (fn41:W.isFn K (.ref f41)=true)
 (a42:W.findIn K (.ref Z93) "__init__" = some (some (.ref f42))) (l42:K.lookup f42=some ⟨O42,D42,.func (W.fnOf "__init__" "Book.__init__" (Za YD) (Z9 YD) (Z3 YD) .none V42 E42 P42 N42 Q42 T42),S42⟩) (c42:W.codeIn K Q42 "Book.__init__" = true) (k42:W.keepIn K (.ref f42)=true)
 (fn42:W.isFn K (.ref f42)=true)
 (a43:W.findIn K (.ref Z93) "turn_to" = some (some (.ref f43))) (l43:K.lookup f43=some ⟨O43,D43,.func (W.fnOf "turn_to" "Book.turn_to" (Za Yc) (Z9 Yc) (Z3 Yc) .none V43 E43 P43 N43 Q43 T43),S43⟩) (c43:W.codeIn K Q43 "Book.turn_to" = true) (k43:W.keepIn K (.ref f43)=true)
 (fn43:W.isFn K (.ref f43)=true)
 (a44:W.findIn K (.ref Z93) "side" = some (some (.ref f44))) (l44:K.lookup f44=some ⟨O44,D44,.func (W.fnOf "side" "Book.side" (Za YK) (Z9 YK) (Z3 YK) .none V44 E44 P44 N44 Q44 T44),S44⟩) (c44:W.codeIn K Q44 "Book.side" = true) (k44:W.keepIn K (.ref f44)=true)
 (fn44:W.isFn K (.ref f44)=true)
 (a45:W.findIn K (.ref Z93) "man" = some (some (.ref f45))) (l45:K.lookup f45=some ⟨O45,D45,.func (W.fnOf "man" "Book.man" (Za X7) (Z9 X7) (Z3 X7) .none V45 E45 P45 N45 Q45 T45),S45⟩) (c45:W.codeIn K Q45 "Book.man" = true) (k45:W.keepIn K (.ref f45)=true)
 (fn45:W.isFn K (.ref f45)=true)
 (a46:W.findIn K (.ref Z93) "strike" = some (some (.ref f46))) (l46:K.lookup f46=some ⟨O46,D46,.func (W.fnOf "strike" "Book.strike" (Za Yj) (Z9 Yj) (Z3 Yj) .none V46 E46 P46 N46 Q46 T46),S46⟩) (c46:W.codeIn K Q46 "Book.strike" = true) (k46:W.keepIn K (.ref f46)=true)
 (fn46:W.isFn K (.ref f46)=true)
 (a47:W.findIn K (.ref Z93) "tell" = some (some (.ref f47))) (l47:K.lookup f47=some ⟨O47,D47,.func (W.fnOf "tell" "Book.tell" (Za YE) (Z9 YE) (Z3 YE) .none V47 E47 P47 N47 Q47 T47),S47⟩) (c47:W.codeIn K Q47 "Book.tell" = true) (k47:W.keepIn K (.ref f47)=true)
 (fn47:W.isFn K (.ref f47)=true)
 (a48:W.findIn K (.ref Z93) "take" = some (some (.ref f48))) (l48:K.lookup f48=some ⟨O48,D48,.func (W.fnOf "take" "Book.take" (Za YF) (Z9 YF) (Z3 YF) .none V48 E48 P48 N48 Q48 T48),S48⟩) (c48:W.codeIn K Q48 "Book.take" = true) (k48:W.keepIn K (.ref f48)=true)
 (fn48:W.isFn K (.ref f48)=true)
 (a49:W.findIn K (.ref Z93) "word" = some (some (.ref f49))) (l49:K.lookup f49=some ⟨O49,D49,.func (W.fnOf "word" "Book.word" (Za YS) (Z9 YS) (Z3 YS) .none V49 E49 P49 N49 Q49 T49),S49⟩) (c49:W.codeIn K Q49 "Book.word" = true) (k49:W.keepIn K (.ref f49)=true)
 (fn49:W.isFn K (.ref f49)=true)
 (a50:W.findIn K (.ref Z93) "flee" = some (some (.ref f50))) (l50:K.lookup f50=some ⟨O50,D50,.func (W.fnOf "flee" "Book.flee" (Za YT) (Z9 YT) (Z3 YT) .none V50 E50 P50 N50 Q50 T50),S50⟩) (c50:W.codeIn K Q50 "Book.flee" = true) (k50:W.keepIn K (.ref f50)=true)
 (fn50:W.isFn K (.ref f50)=true)
 (a51:W.findIn K (.ref Z93) "sides" = some (some (.ref f51))) (l51:K.lookup f51=some ⟨O51,D51,.func (W.fnOf "sides" "Book.sides" (Za Ys) (Z9 Ys) (Z3 Ys) .none V51 E51 P51 N51 Q51 T51),S51⟩) (c51:W.codeIn K Q51 "Book.sides" = true) (k51:W.keepIn K (.ref f51)=true)
 (fn51:W.isFn K (.ref f51)=true)
 (a52:W.findIn K (.ref Z93) "men" = some (some (.ref f52))) (l52:K.lookup f52=some ⟨O52,D52,.func (W.fnOf "men" "Book.men" (Za YB) (Z9 YB) (Z3 YB) .none V52 E52 P52 N52 Q52 T52),S52⟩) (c52:W.codeIn K Q52 "Book.men" = true) (k52:W.keepIn K (.ref f52)=true)
 (fn52:W.isFn K (.ref f52)=true)
 (a53:W.findIn K (.ref Z93) "deeds" = some (some (.ref f53))) (l53:K.lookup f53=some ⟨O53,D53,.func (W.fnOf "deeds" "Book.deeds" (Za Yx) (Z9 Yx) (Z3 Yx) .none V53 E53 P53 N53 Q53 T53),S53⟩) (c53:W.codeIn K Q53 "Book.deeds" = true) (k53:W.keepIn K (.ref f53)=true)
 (fn53:W.isFn K (.ref f53)=true)
 (g_MOST_RANKS:W.nsIn K mainGlobals "MOST_RANKS" = some (some (.int 6 tk_MOST_RANKS)))
 (g_LETTERS:W.nsIn K mainGlobals "LETTERS" = some (some (.str "abcdefghijklmnopqrstuvwxyz" tk_LETTERS)))
 (g_MOST_LETTERS:W.nsIn K mainGlobals "MOST_LETTERS" = some (some (.int 8 tk_MOST_LETTERS)))
 (g_MOST_SIDES:W.nsIn K mainGlobals "MOST_SIDES" = some (some (.int 6 tk_MOST_SIDES)))
 (g_MOST_MEN:W.nsIn K mainGlobals "MOST_MEN" = some (some (.int 40 tk_MOST_MEN)))
 (g_MOST_DEEDS:W.nsIn K mainGlobals "MOST_DEEDS" = some (some (.int 120 tk_MOST_DEEDS)))
 (g_LAST_DAY:W.nsIn K mainGlobals "LAST_DAY" = some (some (.int 1000000 tk_LAST_DAY)))
 (g_NO_NUMBER:W.nsIn K mainGlobals "NO_NUMBER" = some (some (.int 0 tk_NO_NUMBER)))
 (z_abs:W.nsIn K mainGlobals "abs" = some none)
 (z_all:W.nsIn K mainGlobals "all" = some none)
 (z_len:W.nsIn K mainGlobals "len" = some none)
 (z_sorted:W.nsIn K mainGlobals "sorted" = some none)
 (z_dict:W.nsIn K mainGlobals "dict" = some none)
 (z_max:W.nsIn K mainGlobals "max" = some none)
 (z_list:W.nsIn K mainGlobals "list" = some none)
 (z_range:W.nsIn K mainGlobals "range" = some none)
 (z_isinstance:W.nsIn K mainGlobals "isinstance" = some none)
 (z_ValueError:W.nsIn K mainGlobals "ValueError" = some none)
 (xc_CartelError:W.excIn K Z92 vErr "ValueError.__new__" = true)
 (xc_BadName:W.excIn K Z9h vErr "ValueError.__new__" = true)
 (xc_Taken:W.excIn K Z9u vErr "ValueError.__new__" = true)
 (xc_Full:W.excIn K Z9B vErr "ValueError.__new__" = true)
 (xc_NoSide:W.excIn K Z9p vErr "ValueError.__new__" = true)
 (xc_NoMan:W.excIn K Z9w vErr "ValueError.__new__" = true)
 (xc_BadRank:W.excIn K Z9j vErr "ValueError.__new__" = true)
 (xc_Own:W.excIn K Za1 vErr "ValueError.__new__" = true)
 (xc_BadTariff:W.excIn K Z9c vErr "ValueError.__new__" = true)
 (xc_BadLimit:W.excIn K Z9f vErr "ValueError.__new__" = true)
 (xc_BadDay:W.excIn K Z9q vErr "ValueError.__new__" = true)
 (xc_NoCartel:W.excIn K Z9g vErr "ValueError.__new__" = true)
 (xc_NoMen:W.excIn K Z9z vErr "ValueError.__new__" = true)
 (xc_Twice:W.excIn K Z9x vErr "ValueError.__new__" = true)
 (xc_Gone:W.excIn K Z9H vErr "ValueError.__new__" = true)
 (xc_Held:W.excIn K Z9F vErr "ValueError.__new__" = true)
 (xc_NotHeld:W.excIn K Z9m vErr "ValueError.__new__" = true)
 (xc_OffRoll:W.excIn K Z9l vErr "ValueError.__new__" = true)
 (xc_Uneven:W.excIn K Z9t vErr "ValueError.__new__" = true)
 (xc_NoDeed:W.excIn K Z9s vErr "ValueError.__new__" = true)
 (y_I_Breaks:XI K Z9d f41)
 (y_cl_Man:Cls K Z9o)
 (y_n_Man_claims:W.findIn K (.ref Z9o) "claims" = some none)
 (y_n_Man_dead:W.findIn K (.ref Z9o) "dead" = some none)
 (y_n_Man_grade:W.findIn K (.ref Z9o) "grade" = some none)
 (y_n_Man_home:W.findIn K (.ref Z9o) "home" = some none)
 (y_mk_Man:Mk K Z9o f38)
 (y_cl_Muster:Cls K Z97)
 (y_n_Muster_balances:W.findIn K (.ref Z97) "balances" = some none)
 (y_n_Muster_roster:W.findIn K (.ref Z97) "roster" = some none)
 (y_n_Muster_treaties:W.findIn K (.ref Z97) "treaties" = some none)
 (y_mk_Muster:Mk K Z97 f39)
 (y_cl_Page:Cls K Z98)
 (y_n_Page_cartel_table:W.findIn K (.ref Z98) "cartel_table" = some none)
 (y_n_Page_deed_list:W.findIn K (.ref Z98) "deed_list" = some none)
 (y_n_Page_man_table:W.findIn K (.ref Z98) "man_table" = some none)
 (y_n_Page_next_number:W.findIn K (.ref Z98) "next_number" = some none)
 (y_n_Page_side_names:W.findIn K (.ref Z98) "side_names" = some none)
 (y_mk_Page:Mk K Z98 f40)
 (y_cl_Book:Cls K Z93)
 (y_n_Book_future:W.findIn K (.ref Z93) "future" = some none)
 (y_n_Book_page:W.findIn K (.ref Z93) "page" = some none)
 (y_n_Book_past:W.findIn K (.ref Z93) "past" = some none)
 (y_mk_Book:Mk K Z93 f42)
 (y_f_xd:W.XD K)
 (y_f_tab:Z4h K [Z9h,Z9u,Z9B,Z9p,Z9w,Z9j,Za1,Z9c,Z9f,Z9q,Z9g,Z9z,Z9x,Z9H,Z9F,Z9m,Z9l,Z9t,Z9s,Z9d]=true)
 (y_f_base:Z3V K Z92 [Z9h,Z9u,Z9B,Z9p,Z9w,Z9j,Za1,Z9c,Z9f,Z9q,Z9g,Z9z,Z9x,Z9H,Z9F,Z9m,Z9l,Z9t,Z9s,Z9d]=true)
 (y_s_Breaks:W.XS K Z9d "number")
 (y_f_m0:W.mroIn K Z9h (.ref Z92)=some true)
 (y_f_m1:W.mroIn K Z9u (.ref Z92)=some true)
 (y_f_m2:W.mroIn K Z9B (.ref Z92)=some true)
 (y_f_m3:W.mroIn K Z9p (.ref Z92)=some true)
 (y_f_m4:W.mroIn K Z9w (.ref Z92)=some true)
 (y_f_m5:W.mroIn K Z9j (.ref Z92)=some true)
 (y_f_m6:W.mroIn K Za1 (.ref Z92)=some true)
 (y_f_m7:W.mroIn K Z9c (.ref Z92)=some true)
 (y_f_m8:W.mroIn K Z9f (.ref Z92)=some true)
 (y_f_m9:W.mroIn K Z9q (.ref Z92)=some true)
 (y_f_m10:W.mroIn K Z9g (.ref Z92)=some true)
 (y_f_m11:W.mroIn K Z9z (.ref Z92)=some true)
 (y_f_m12:W.mroIn K Z9x (.ref Z92)=some true)
 (y_f_m13:W.mroIn K Z9H (.ref Z92)=some true)
 (y_f_m14:W.mroIn K Z9F (.ref Z92)=some true)
 (y_f_m15:W.mroIn K Z9m (.ref Z92)=some true)
 (y_f_m16:W.mroIn K Z9l (.ref Z92)=some true)
 (y_f_m17:W.mroIn K Z9t (.ref Z92)=some true)
 (y_f_m18:W.mroIn K Z9s (.ref Z92)=some true)
 (y_f_m19:W.mroIn K Z9d (.ref Z92)=some true)
 (gd_DOINGS:W.nsIn K mainGlobals "DOINGS" = some (some (.ref Z9e)))
 (ld_DOINGS:K.lookup Z9e=some ⟨.type "dict",none,.dict #[⟨PyData.keyHash w.params "take",.str "take" dt0_DOINGS,.ref f4⟩,⟨PyData.keyHash w.params "word",.str "word" dt1_DOINGS,.ref f5⟩,⟨PyData.keyHash w.params "free",.str "free" dt2_DOINGS,.ref f6⟩,⟨PyData.keyHash w.params "flee",.str "flee" dt3_DOINGS,.ref f6⟩,⟨PyData.keyHash w.params "rank",.str "rank" dt4_DOINGS,.ref f7⟩,⟨PyData.keyHash w.params "die",.str "die" dt5_DOINGS,.ref f8⟩,⟨PyData.keyHash w.params "swap",.str "swap" dt6_DOINGS,.ref f9⟩] ep_DOINGS,#[]⟩) :
 ∃ fd:FuncData,(∀ (s:Shared) (v:Value),BindsTo s fd ⟨[v],[]⟩ [("_law_script",v)])∧∀ base:Heap,K.In base→base.Ns mainGlobals mg→FnOk l.prog w K mg base CX0 12 fa fd ["_law_script"] (Z20 K):=by
 have e:=hfa.symm.trans (W.mg_of X G a37);cases e;have F1:=Zf (st:=ZN) l1 c1 k1;have F2:=Zf (st:=Yr) l2 c2 k2;have F3:=Zf (st:=YO) l3 c3 k3;have F4:=Zf (st:=X5) l4 c4 k4;have F5:=Zf (st:=Yd) l5 c5 k5;have F6:=Zf (st:=YJ) l6 c6 k6;have F7:=Zf (st:=Xb) l7 c7 k7;have F8:=Zf (st:=XL) l8 c8 k8;have F9:=Zf (st:=Xr) l9 c9 k9;have F10:=Zf (st:=Xm) l10 c10 k10;have F11:=Zf (st:=Yo) l11 c11 k11;have F12:=Zf (st:=YM) l12 c12 k12;have F13:=Zf (st:=Yw) l13 c13 k13;have F14:=Zf (st:=YI) l14 c14 k14;have F15:=Zf (st:=X4) l15 c15 k15;have F16:=Zf (st:=YU) l16 c16 k16;have F17:=Zf (st:=X8) l17 c17 k17;have F18:=Zf (st:=Y5) l18 c18 k18;have F19:=Zf (st:=YQ) l19 c19 k19;have F20:=Zf (st:=Yp) l20 c20 k20;have F21:=Zf (st:=Yq) l21 c21 k21;have F22:=Zf (st:=Yl) l22 c22 k22;have F23:=Zf (st:=Yb) l23 c23 k23;have F24:=Zf (st:=Y4) l24 c24 k24;have F25:=Zf (st:=Yv) l25 c25 k25;have F26:=Zf (st:=YH) l26 c26 k26;have F27:=Zf (st:=X3) l27 c27 k27;have F28:=Zf (st:=YL) l28 c28 k28;have F29:=Zf (st:=ZX) l29 c29 k29;have F30:=Zf (st:=Jr) l30 c30 k30;have F31:=Zf (st:=Xx) l31 c31 k31;have F32:=Zf (st:=J8) l32 c32 k32;have F33:=Zf (st:=Xf) l33 c33 k33;have F34:=Zf (st:=Xn) l34 c34 k34;have F35:=Zf (st:=Y7) l35 c35 k35;have F36:=Zf (st:=J7) l36 c36 k36;have F37:=Zf (st:=Jk) l37 c37 k37;have F38:=Zf (st:=X6) l38 c38 k38;have F39:=Zf (st:=Yk) l39 c39 k39;have F40:=Zf (st:=YV) l40 c40 k40;have F41:=Zf (st:=YC) l41 c41 k41;have F42:=Zf (st:=YD) l42 c42 k42;have F43:=Zf (st:=Yc) l43 c43 k43;have F44:=Zf (st:=YK) l44 c44 k44;have F45:=Zf (st:=X7) l45 c45 k45;have F46:=Zf (st:=Yj) l46 c46 k46;have F47:=Zf (st:=YE) l47 c47 k47;have F48:=Zf (st:=YF) l48 c48 k48;have F49:=Zf (st:=YS) l49 c49 k49;have F50:=Zf (st:=YT) l50 c50 k50;have F51:=Zf (st:=Ys) l51 c51 k51;have F52:=Zf (st:=YB) l52 c52 k52;have F53:=Zf (st:=Yx) l53 c53 k53;have b1:=F1.binds (ps:=["man"]) (by walk_at "1");have b2:=F2.binds (ps:=["man"]) (by walk_at "1");have b3:=F3.binds (ps:=["man"]) (by walk_at "1");have b4:=F4.binds (ps:=["muster","day","deed"]) (by walk_at "3");have b5:=F5.binds (ps:=["muster","day","deed"]) (by walk_at "3");have b6:=F6.binds (ps:=["muster","day","deed"]) (by walk_at "3");have b7:=F7.binds (ps:=["muster","day","deed"]) (by walk_at "3");have b8:=F8.binds (ps:=["muster","day","deed"]) (by walk_at "3");have b9:=F9.binds (ps:=["muster","day","deed"]) (by walk_at "3");have b10:=F10.binds (ps:=["muster","day","deed"]) (by walk_at "3");have b11:=F11.binds (ps:=["text","signs"]) (by walk_at "2");have b12:=F12.binds (ps:=["text"]) (by walk_at "1");have b13:=F13.binds (ps:=[]) (by walk_at "0");have b14:=F14.binds (ps:=["page","name"]) (by walk_at "2");have b15:=F15.binds (ps:=["page","name"]) (by walk_at "2");have b16:=F16.binds (ps:=["rank"]) (by walk_at "1");have b17:=F17.binds (ps:=["day"]) (by walk_at "1");have b18:=F18.binds (ps:=["name","table"]) (by walk_at "2");have b19:=F19.binds (ps:=["many","most"]) (by walk_at "2");have b20:=F20.binds (ps:=["page","number"]) (by walk_at "2");have b21:=F21.binds (ps:=["page","deed"]) (by walk_at "2");have b22:=F22.binds (ps:=["muster","number","day","deed"]) (by walk_at "4");have b23:=F23.binds (ps:=["page","told"]) (by walk_at "2");have b24:=F24.binds (ps:=["entry"]) (by walk_at "1");have b25:=F25.binds (ps:=["page","entries","next_number"]) (by walk_at "3");have b26:=F26.binds (ps:=["page","name"]) (by walk_at "2");have b27:=F27.binds (ps:=["page","name","side","rank"]) (by walk_at "4");have b28:=F28.binds (ps:=["page","number","day","deed"]) (by walk_at "4");have b29:=F29.binds (ps:=["page","number"]) (by walk_at "2");have b30:=F30.binds (ps:=["_law_script"]) (by walk_at "1");have b31:=F31.binds (ps:=["_law_number","_law_turn"]) (by walk_at "2");have b32:=F32.binds (ps:=["_law_box_here","_law_size"]) (by walk_at "2");have b33:=F33.binds (ps:=["_law_box_here","_law_alike"]) (by walk_at "2");have b34:=F34.binds (ps:=["_law_e"]) (by walk_at "1");have b35:=F35.binds (ps:=["_law_box_here","_law_many"]) (by walk_at "2");have b36:=F36.binds (ps:=["_law_book","_law_way","_law_name","_law_day"]) (by walk_at "4");have b37:=F37.binds (ps:=["_law_script"]) (by walk_at "1");have b38:=F38.binds (ps:=["self","home","grade"]) (by walk_at "3");have b39:=F39.binds (ps:=["self","man_table","cartel_table"]) (by walk_at "3");have b40:=F40.binds (ps:=["self","side_names","man_table","cartel_table","deed_list","next_number"]) (by walk_at "6");have b41:=F41.binds (ps:=["self","number"]) (by walk_at "2");have b42:=F42.binds (ps:=["self"]) (by walk_at "1");have b43:=F43.binds (ps:=["self","page"]) (by walk_at "2");have b44:=F44.binds (ps:=["self","name"]) (by walk_at "2");have b45:=F45.binds (ps:=["self","name","side","rank"]) (by walk_at "4");have b46:=F46.binds (ps:=["self","number"]) (by walk_at "2");have b47:=F47.binds (ps:=["self","day","deed"]) (by walk_at "3");have b48:=F48.binds (ps:=["self","day","man","side"]) (by walk_at "4");have b49:=F49.binds (ps:=["self","day","man"]) (by walk_at "3");have b50:=F50.binds (ps:=["self","day","man"]) (by walk_at "3");have b51:=F51.binds (ps:=["self"]) (by walk_at "1");have b52:=F52.binds (ps:=["self"]) (by walk_at "1");have b53:=F53.binds (ps:=["self"]) (by walk_at "1");have T:Txt K mg ⟨f1,f2,f3,f4,f5,f6,f7,f8,f9,f10,f11,f12,f13,f14,f15,f16,f17,f18,f19,f20,f21,f22,f23,f24,f25,f26,f27,f28,f29,f30,f31,f32,f33,f34,f35,f36,fa,f38,f39,f40,f41,f42,f43,f44,f45,f46,f47,f48,f49,f50,f51,f52,f53,_,_,_,_,_,_,_,_,_,_,_,_,_,_,_,_,_,_,_,_,_,_,_,_,_,_,_,_,_,_,_,_,_,_,_,_,_,_,_,_,_,_,_,_,_,_,_,_,_,_,_,_,_,Z92,Z9h,Z9u,Z9B,Z9p,Z9w,Z9j,Za1,Z9c,Z9f,Z9q,Z9g,Z9z,Z9x,Z9H,Z9F,Z9m,Z9l,Z9t,Z9s,Z9d,Z9o,Z97,Z98,Z93,Z9e⟩:={
  ZgR:=W.mg_none_of X G z_abs
  ZgC:=W.mg_none_of X G z_all
  ZaF:=W.mg_none_of X G z_len
  Zd6:=W.mg_none_of X G z_sorted
  Zga:=W.mg_none_of X G z_dict
  Zgy:=W.mg_none_of X G z_max
  Zfg:=W.mg_none_of X G z_list
  Zbu:=W.mg_none_of X G z_range
  Z95:=W.mg_none_of X G z_isinstance
  Zdt:=W.mg_none_of X G z_ValueError
  Zdm:=⟨_,W.mg_of X G g_MOST_RANKS⟩
  Zf2:=⟨_,W.mg_of X G g_LETTERS⟩
  ZcU:=⟨_,W.mg_of X G g_MOST_LETTERS⟩
  ZdK:=⟨_,W.mg_of X G g_MOST_SIDES⟩
  Zey:=⟨_,W.mg_of X G g_MOST_MEN⟩
  Zdv:=⟨_,W.mg_of X G g_MOST_DEEDS⟩
  Zex:=⟨_,W.mg_of X G g_LAST_DAY⟩
  Ze9:=⟨_,W.mg_of X G g_NO_NUMBER⟩
  Za9:=W.mg_of X G a1
  Z9Z:=F1
  Zac:=b1
  Zc0:=W.mg_of X G a2
  ZaH:=F2
  ZbS:=b2
  Zco:=W.mg_of X G a3
  Zb9:=F3
  Zci:=b3
  ZfY:=W.mg_of X G a4
  Zd7:=F4
  Zew:=b4
  ZeU:=W.mg_of X G a5
  ZaS:=F5
  ZcO:=b5
  ZfO:=W.mg_of X G a6
  ZcG:=F6
  ZdP:=b6
  ZfB:=W.mg_of X G a7
  ZfE:=F7
  ZfM:=b7
  Zgg:=W.mg_of X G a8
  Zgb:=F8
  Zgd:=b8
  Zg7:=W.mg_of X G a9
  Zg2:=F9
  Zg6:=b9
  ZdJ:=W.mg_of X G a10
  Zc7:=F10
  ZdB:=b10
  Zea:=W.mg_of X G a11
  ZcM:=F11
  Ze6:=b11
  Ze8:=W.mg_of X G a12
  Zcb:=F12
  ZdX:=b12
  Zdu:=W.mg_of X G a13
  ZbM:=F13
  Zdr:=b13
  ZcF:=W.mg_of X G a14
  Zb1:=F14
  ZcC:=b14
  Zet:=W.mg_of X G a15
  ZcX:=F15
  Zez:=b15
  ZdR:=W.mg_of X G a16
  Zcu:=F16
  ZdN:=b16
  ZeH:=W.mg_of X G a17
  ZcZ:=F17
  ZeI:=b17
  Zaq:=W.mg_of X G a18
  Za0:=F18
  Zap:=b18
  Zb0:=W.mg_of X G a19
  Zaa:=F19
  ZaW:=b19
  ZdO:=W.mg_of X G a20
  Zcj:=F20
  Ze2:=b20
  ZdC:=W.mg_of X G a21
  ZbJ:=F21
  Zdx:=b21
  Zdj:=W.mg_of X G a22
  Zbe:=F22
  Zdf:=b22
  ZaU:=W.mg_of X G a23
  Za5:=F23
  ZaP:=b23
  Zc6:=W.mg_of X G a24
  Zc8:=F24
  Zca:=b24
  Zbz:=W.mg_of X G a25
  Zax:=F25
  ZbT:=b25
  ZdV:=W.mg_of X G a26
  Zcm:=F26
  ZdT:=b26
  ZeF:=W.mg_of X G a27
  Zd5:=F27
  ZeA:=b27
  Ze1:=W.mg_of X G a28
  Zcs:=F28
  ZdZ:=b28
  ZcN:=W.mg_of X G a29
  ZaO:=F29
  ZcT:=b29
  Zgi:=W.mg_of X G a30
  Zfm:=F30
  Zg9:=b30
  Zej:=W.mg_of X G a31
  Zd4:=F31
  Zeh:=b31
  Z9X:=W.mg_of X G a32
  Z9Q:=F32
  Z9W:=b32
  Zfr:=W.mg_of X G a33
  Zem:=F33
  Zfs:=b33
  ZeZ:=W.mg_of X G a34
  Zdq:=F34
  Zf5:=b34
  Zbo:=W.mg_of X G a35
  Zaj:=F35
  Zbg:=b35
  ZeP:=W.mg_of X G a36
  ZdL:=F36
  ZeT:=b36
  ZgS:=W.mg_of X G a37
  Zgs:=F37
  ZgT:=b37
  Zg5:=a38
  ZfG:=fn38
  ZeG:=F38
  Zev:=b38
  Zfc:=a39
  ZeM:=fn39
  Zdg:=F39
  Zdh:=b39
  ZfC:=a40
  Zfi:=fn40
  Ze7:=F40
  Zag:=b40
  Zf8:=a41
  ZeL:=fn41
  Zf9:=F41
  Zf6:=b41
  ZfI:=a42
  Zfk:=fn42
  Ze3:=F42
  Zeb:=b42
  Z9N:=a43
  Z9I:=fn43
  Z9A:=F43
  Z9O:=b43
  Zck:=a44
  ZbC:=fn44
  ZaZ:=F44
  ZcJ:=b44
  ZaE:=a45
  Zae:=fn45
  Za6:=F45
  Zau:=b45
  Zdd:=a46
  ZcQ:=fn46
  Zbn:=F46
  Zdc:=b46
  Zb7:=a47
  Zar:=fn47
  Zai:=F47
  Zb2:=b47
  ZaX:=a48
  Zaz:=fn48
  Zad:=F48
  Zb3:=b48
  ZcB:=a49
  ZbY:=fn49
  Zb4:=F49
  ZcA:=b49
  Ze4:=a50
  ZdH:=fn50
  Zcl:=F50
  ZdU:=b50
  Za2:=a51
  Z9U:=fn51
  Z9P:=F51
  Za4:=b51
  Zes:=a52
  Zed:=fn52
  Zd3:=F52
  ZeJ:=b52
  ZbI:=a53
  Zbf:=fn53
  ZaB:=F53
  Zbv:=b53
  Zda:=W.mg_of X G mc_CartelError
  Zde:=xc_CartelError
  Zds:=W.mg_of X G mc_BadName
  Zdw:=xc_BadName
  ZeO:=W.mg_of X G mc_Taken
  ZeK:=xc_Taken
  ZfA:=W.mg_of X G mc_Full
  Zff:=xc_Full
  Zel:=W.mg_of X G mc_NoSide
  Zef:=xc_NoSide
  ZeN:=W.mg_of X G mc_NoMan
  ZeQ:=xc_NoMan
  Zdp:=W.mg_of X G mc_BadRank
  Zdk:=xc_BadRank
  Zgw:=W.mg_of X G mc_Own
  Zgz:=xc_Own
  ZdY:=W.mg_of X G mc_BadTariff
  Zec:=xc_BadTariff
  ZeB:=W.mg_of X G mc_BadLimit
  ZeD:=xc_BadLimit
  Zeg:=W.mg_of X G mc_BadDay
  Zei:=xc_BadDay
  Zer:=W.mg_of X G mc_NoCartel
  ZeC:=xc_NoCartel
  ZfT:=W.mg_of X G mc_NoMen
  ZfR:=xc_NoMen
  ZfW:=W.mg_of X G mc_Twice
  ZfU:=xc_Twice
  Zgj:=W.mg_of X G mc_Gone
  Zgm:=xc_Gone
  Zgk:=W.mg_of X G mc_Held
  Zgh:=xc_Held
  ZeX:=W.mg_of X G mc_NotHeld
  Zf1:=xc_NotHeld
  Zf3:=W.mg_of X G mc_OffRoll
  Zf4:=xc_OffRoll
  Zfu:=W.mg_of X G mc_Uneven
  Zft:=xc_Uneven
  Zfq:=W.mg_of X G mc_NoDeed
  Zfn:=xc_NoDeed
  Zfj:=W.mg_of X G mc_Breaks
  Zgx:=W.mg_of X G mc_Man
  Zfz:=W.mg_of X G mc_Muster
  Zdn:=W.mg_of X G mc_Page
  Zgc:=W.mg_of X G mc_Book
  Zfe:=W.mg_of X G gd_DOINGS
  Zfv:=y_I_Breaks
  Z9S:=y_cl_Man
  Z9C:=y_n_Man_claims
  Zd0:=y_n_Man_dead
  ZdS:=y_n_Man_grade
  ZcV:=y_n_Man_home
  Zgf:=y_mk_Man
  Z9R:=y_cl_Muster
  Zbp:=y_n_Muster_balances
  Z9y:=y_n_Muster_roster
  Zbq:=y_n_Muster_treaties
  ZeY:=y_mk_Muster
  Z96:=y_cl_Page
  Z9n:=y_n_Page_cartel_table
  Z9a:=y_n_Page_deed_list
  Z99:=y_n_Page_man_table
  Z9i:=y_n_Page_next_number
  Z9b:=y_n_Page_side_names
  ZcR:=y_mk_Page
  Z94:=y_cl_Book
  Zbj:=y_n_Book_future
  Z9k:=y_n_Book_page
  Zcv:=y_n_Book_past
  ZfV:=y_mk_Book
  Z9D:=y_f_xd
  Zgu:=y_f_tab
  Zgl:=y_f_base
  Zgo:=y_s_Breaks
  ZgP:=y_f_m0
  ZgJ:=y_f_m1
  ZgQ:=y_f_m2
  ZgG:=y_f_m3
  ZgH:=y_f_m4
  ZgK:=y_f_m5
  ZgM:=y_f_m6
  ZgL:=y_f_m7
  ZgO:=y_f_m8
  ZgN:=y_f_m9
  ZgA:=y_f_m10
  Zgq:=y_f_m11
  ZgB:=y_f_m12
  ZgE:=y_f_m13
  Zgp:=y_f_m14
  Zgv:=y_f_m15
  ZgF:=y_f_m16
  ZgD:=y_f_m17
  Zgt:=y_f_m18
  Zgr:=y_f_m19
 }
 have TD:DictF w K Z9e [("take",f4),("word",f5),("free",f6),("flee",f6),("rank",f7),("die",f8),("swap",f9)]:=⟨_,_,_,ld_DOINGS,⟨rfl,rfl,rfl⟩,rfl,.cons (.cons (.cons (.cons (.cons (.cons (.cons (.nil))))))),(show List.Nodup (["take","word","free","flee","rank","die","swap"]:List Str) by decide +kernel)⟩;exact⟨_,λs v=>.of_eq rfl,λbase _ _=>Z8m T TD⟩
theorem walk {l:W.OpenLaw}{q:Program}{loose:List Str}{XP:(Str→Option Value)→Heap→Prop}{YP:World→Heap→Prop}{d:DefRec}{K:Params→W.Frag}(hn:l.most=some 63)(hdf:d.params.defaults=[])
 (hY:∀ (w:World) (h:Heap),YP w h→(K w.params).In h)
 (F:∀ (w:World) (mg:Str→Option Value) (fa:Addr) (h:Heap),(K w.params).In h→h.Ns mainGlobals mg→mg d.name=some (.ref fa)→
   ∃ fd:FuncData,(∀ (s:Shared) (u:Value),BindsTo s fd ⟨[u],[]⟩ [("_law_script",u)])∧∀ base:Heap,(K w.params).In base→base.Ns mainGlobals mg→FnOk l.prog w (K w.params) mg base CX0 12 fa fd ["_law_script"] (Z20 (K w.params))) :
 W.WalkO q loose XP YP l.row.toRowW d [] (λf vs=>PySem.call f vs):=
 L2.walk_of (n:=63) (k:=12) (x:="_law_script") (CX:=λ_=>CX0) (sp:=λw=>Z20 (K w.params)) hn (by decide) hdf ⟨rfl,by decide,by decide⟩ hY F (λ_ _ a ns hl _ hS=>⟨a,ns,rfl,hS,hl,λ_=>rfl⟩) λ_ _ _ _ _ z=>z
end My
open PySem PySem.W PyProof.Rows
set_option maxRecDepth 100000 in
set_option maxHeartbeats 0 in
theorem PySem.Challenge.cw_cartelship_k40_a_book_without_room_holds : PySem.Challenge.rw_cartelship_k40_a_book_without_room.Holds := by
 refine hd ?_
 k_fill
 refine My.walk (l:=PySem.Challenge.rw_cartelship_k40_a_book_without_room) rfl rfl (λw h Y=>W.kIn_of Y) ?F
 case F=>
  intro w mg fa h KX G hmg;refine' My.all_mk KX G hmg ?mc_CartelError ?mc_BadName ?mc_Taken ?mc_Full ?mc_NoSide ?mc_NoMan ?mc_BadRank ?mc_Own ?mc_BadTariff ?mc_BadLimit ?mc_BadDay ?mc_NoCartel ?mc_NoMen ?mc_Twice ?mc_Gone ?mc_Held ?mc_NotHeld ?mc_OffRoll ?mc_Uneven ?mc_NoDeed ?mc_Breaks ?mc_Man ?mc_Muster ?mc_Page ?mc_Book ?a1 ?l1 ?c1 ?k1 ?a2 ?l2 ?c2 ?k2 ?a3 ?l3 ?c3 ?k3 ?a4 ?l4 ?c4 ?k4 ?a5 ?l5 ?c5 ?k5 ?a6 ?l6 ?c6 ?k6 ?a7 ?l7 ?c7 ?k7 ?a8 ?l8 ?c8 ?k8 ?a9 ?l9 ?c9 ?k9 ?a10 ?l10 ?c10 ?k10 ?a11 ?l11 ?c11 ?k11 ?a12 ?l12 ?c12 ?k12 ?a13 ?l13 ?c13 ?k13 ?a14 ?l14 ?c14 ?k14 ?a15 ?l15 ?c15 ?k15 ?a16 ?l16 ?c16 ?k16 ?a17 ?l17 ?c17 ?k17 ?a18 ?l18 ?c18 ?k18 ?a19 ?l19 ?c19 ?k19 ?a20 ?l20 ?c20 ?k20 ?a21 ?l21 ?c21 ?k21 ?a22 ?l22 ?c22 ?k22 ?a23 ?l23 ?c23 ?k23 ?a24 ?l24 ?c24 ?k24 ?a25 ?l25 ?c25 ?k25 ?a26 ?l26 ?c26 ?k26 ?a27 ?l27 ?c27 ?k27 ?a28 ?l28 ?c28 ?k28 ?a29 ?l29 ?c29 ?k29 ?a30 ?l30 ?c30 ?k30 ?a31 ?l31 ?c31 ?k31 ?a32 ?l32 ?c32 ?k32 ?a33 ?l33 ?c33 ?k33 ?a34 ?l34 ?c34 ?k34 ?a35 ?l35 ?c35 ?k35 ?a36 ?l36 ?c36 ?k36 ?a37 ?l37 ?c37 ?k37 ?a38 ?l38 ?c38 ?k38 ?fn38 ?a39 ?l39 ?c39 ?k39 ?fn39 ?a40 ?l40 ?c40 ?k40 ?fn40 ?a41 ?l41 ?c41 ?k41 ?fn41 ?a42 ?l42 ?c42 ?k42 ?fn42 ?a43 ?l43 ?c43 ?k43 ?fn43 ?a44 ?l44 ?c44 ?k44 ?fn44 ?a45 ?l45 ?c45 ?k45 ?fn45 ?a46 ?l46 ?c46 ?k46 ?fn46 ?a47 ?l47 ?c47 ?k47 ?fn47 ?a48 ?l48 ?c48 ?k48 ?fn48 ?a49 ?l49 ?c49 ?k49 ?fn49 ?a50 ?l50 ?c50 ?k50 ?fn50 ?a51 ?l51 ?c51 ?k51 ?fn51 ?a52 ?l52 ?c52 ?k52 ?fn52 ?a53 ?l53 ?c53 ?k53 ?fn53 ?g_MOST_RANKS ?g_LETTERS ?g_MOST_LETTERS ?g_MOST_SIDES ?g_MOST_MEN ?g_MOST_DEEDS ?g_LAST_DAY ?g_NO_NUMBER ?z_abs ?z_all ?z_len ?z_sorted ?z_dict ?z_max ?z_list ?z_range ?z_isinstance ?z_ValueError ?xc_CartelError ?xc_BadName ?xc_Taken ?xc_Full ?xc_NoSide ?xc_NoMan ?xc_BadRank ?xc_Own ?xc_BadTariff ?xc_BadLimit ?xc_BadDay ?xc_NoCartel ?xc_NoMen ?xc_Twice ?xc_Gone ?xc_Held ?xc_NotHeld ?xc_OffRoll ?xc_Uneven ?xc_NoDeed ?y_I_Breaks ?y_cl_Man ?y_n_Man_claims ?y_n_Man_dead ?y_n_Man_grade ?y_n_Man_home ?y_mk_Man ?y_cl_Muster ?y_n_Muster_balances ?y_n_Muster_roster ?y_n_Muster_treaties ?y_mk_Muster ?y_cl_Page ?y_n_Page_cartel_table ?y_n_Page_deed_list ?y_n_Page_man_table ?y_n_Page_next_number ?y_n_Page_side_names ?y_mk_Page ?y_cl_Book ?y_n_Book_future ?y_n_Book_page ?y_n_Book_past ?y_mk_Book ?y_f_xd ?y_f_tab ?y_f_base ?y_s_Breaks ?y_f_m0 ?y_f_m1 ?y_f_m2 ?y_f_m3 ?y_f_m4 ?y_f_m5 ?y_f_m6 ?y_f_m7 ?y_f_m8 ?y_f_m9 ?y_f_m10 ?y_f_m11 ?y_f_m12 ?y_f_m13 ?y_f_m14 ?y_f_m15 ?y_f_m16 ?y_f_m17 ?y_f_m18 ?y_f_m19 ?gd_DOINGS ?ld_DOINGS
  (case mc_CartelError|mc_BadName|mc_Taken|mc_Full|mc_NoSide|mc_NoMan|mc_BadRank|mc_Own|mc_BadTariff|mc_BadLimit|mc_BadDay|mc_NoCartel|mc_NoMen|mc_Twice|mc_Gone|mc_Held|mc_NotHeld|mc_OffRoll|mc_Uneven|mc_NoDeed|mc_Breaks|mc_Man|mc_Muster|mc_Page|mc_Book|a1|l1|c1|k1|a2|l2|c2|k2|a3|l3|c3|k3|a4|l4|c4|k4|a5|l5|c5|k5|a6|l6|c6|k6|a7|l7|c7|k7|a8|l8|c8|k8|a9|l9|c9|k9|a10|l10|c10|k10|a11|l11|c11|k11|a12|l12|c12|k12|a13|l13|c13|k13|a14|l14|c14|k14|a15|l15|c15|k15|a16|l16|c16|k16|a17|l17|c17|k17|a18|l18|c18|k18|a19|l19|c19|k19|a20|l20|c20|k20|a21|l21|c21|k21|a22|l22|c22|k22|a23|l23|c23|k23|a24|l24|c24|k24|a25|l25|c25|k25|a26|l26|c26|k26|a27|l27|c27|k27|a28|l28|c28|k28|a29|l29|c29|k29|a30|l30|c30|k30|a31|l31|c31|k31|a32|l32|c32|k32|a33|l33|c33|k33|a34|l34|c34|k34|a35|l35|c35|k35|a36|l36|c36|k36|a37|l37|c37|k37|a38|l38|c38|k38|fn38|a39|l39|c39|k39|fn39|a40|l40|c40|k40|fn40|a41|l41|c41|k41|fn41|a42|l42|c42|k42|fn42|a43|l43|c43|k43|fn43|a44|l44|c44|k44|fn44|a45|l45|c45|k45|fn45|a46|l46|c46|k46|fn46|a47|l47|c47|k47|fn47|a48|l48|c48|k48|fn48|a49|l49|c49|k49|fn49|a50|l50|c50|k50|fn50|a51|l51|c51|k51|fn51|a52|l52|c52|k52|fn52|a53|l53|c53|k53|fn53|g_MOST_RANKS|g_LETTERS|g_MOST_LETTERS|g_MOST_SIDES|g_MOST_MEN|g_MOST_DEEDS|g_LAST_DAY|g_NO_NUMBER|z_abs|z_all|z_len|z_sorted|z_dict|z_max|z_list|z_range|z_isinstance|z_ValueError=>k_is)
  (case xc_CartelError|xc_BadName|xc_Taken|xc_Full|xc_NoSide|xc_NoMan|xc_BadRank|xc_Own|xc_BadTariff|xc_BadLimit|xc_BadDay|xc_NoCartel|xc_NoMen|xc_Twice|xc_Gone|xc_Held|xc_NotHeld|xc_OffRoll|xc_Uneven|xc_NoDeed=>k_exc)
  (case y_I_Breaks=>exact⟨⟨_,_,_,_,_,_,_,_,_,_,_,_,_,_,_,_,by k_is,by kernel_rfl⟩,by k_is,by k_is,by k_is⟩)
  (case y_cl_Man=>exact⟨by k_is,by k_is,by k_is,by k_is⟩)
  (case y_n_Man_claims|y_n_Man_dead|y_n_Man_grade|y_n_Man_home=>k_is)
  (case y_mk_Man=>exact⟨by k_is,by k_is,by k_is,by k_is⟩)
  (case y_cl_Muster=>exact⟨by k_is,by k_is,by k_is,by k_is⟩)
  (case y_n_Muster_balances|y_n_Muster_roster|y_n_Muster_treaties=>k_is)
  (case y_mk_Muster=>exact⟨by k_is,by k_is,by k_is,by k_is⟩)
  (case y_cl_Page=>exact⟨by k_is,by k_is,by k_is,by k_is⟩)
  (case y_n_Page_cartel_table|y_n_Page_deed_list|y_n_Page_man_table|y_n_Page_next_number|y_n_Page_side_names=>k_is)
  (case y_mk_Page=>exact⟨by k_is,by k_is,by k_is,by k_is⟩)
  (case y_cl_Book=>exact⟨by k_is,by k_is,by k_is,by k_is⟩)
  (case y_n_Book_future|y_n_Book_page|y_n_Book_past=>k_is)
  (case y_mk_Book=>exact⟨by k_is,by k_is,by k_is,by k_is⟩)
  (case y_f_xd=>exact⟨by k_is,by k_is⟩)
  (case y_f_tab|y_f_base=>kernel_rfl)
  (case y_s_Breaks=>exact⟨by k_is,by k_is,⟨_,by k_is,by kernel_rfl,rfl⟩⟩)
  (case y_f_m0|y_f_m1|y_f_m2|y_f_m3|y_f_m4|y_f_m5|y_f_m6|y_f_m7|y_f_m8|y_f_m9|y_f_m10|y_f_m11|y_f_m12|y_f_m13|y_f_m14|y_f_m15|y_f_m16|y_f_m17|y_f_m18|y_f_m19|gd_DOINGS|ld_DOINGS=>k_is)
